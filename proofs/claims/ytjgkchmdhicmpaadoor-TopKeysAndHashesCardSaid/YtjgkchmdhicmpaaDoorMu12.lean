/- Texts of one's own, merged: from: Package slices on data: Chunk, which is ranged over (the kit's walk), AppendSeq to nil, Collect, over lists of bytes. Own work. -/
import Derived.RangeFuncBox
import Derived.RangeFuncLeaves
import Derived.Shelf.Abstract
import Derived.OwnWalkIn
import Derived.TacticsInMore
import Derived.LoopNIn
import Derived.LoopIn
import Derived.Test.YtjgkchmdhicmpaaDoorMu11
import Derived.Test.YtjgkchmdhicmpaaDoorMu7
import Derived.Test.YtjgkchmdhicmpaaDoorMu10
import Derived.Test.YtjgkchmdhicmpaaDoorMu9
set_option linter.unusedVariables false
set_option linter.unusedSimpArgs false
namespace Go.Proofs.YtjgkchmdhicmpaaDoor
open Go.RowKit
attribute [local go_sem] Oper.semAt_some

theorem cutM_get {b : List UInt8} {n k j : Nat} (h : j < k) : (cutM b n k)[j]? = some ((b.drop (n * j)).take n) := by
  unfold cutM; rw [List.getElem?_map, List.getElem?_range h]; rfl
def sf_chnk : SFn := ⟨2, 9,
  .seq (.reg [⟨(some 2), .box .roBox (.t 0), none⟩,
    ⟨(some 3), .box .roBox (.t 1), none⟩,
    ⟨(some 4), .mv .u, none⟩])
  (.seq (.seq (.reg [⟨(some 5), .load .sc (.t 3), none⟩,
    ⟨(some 6), .bin .lss (.t 5) (.k (.c (.d (.int .i64 1)))), none⟩])
  (.cond (.t 6) (.reg [⟨none, .lenStr .u, none⟩])
   (.skip)))
  (.seq (.reg [⟨(some 8), .clos 125 [(.t 2), (.t 3)], none⟩,
    ⟨(some 4), .mv (.t 8), none⟩])
  (.ret))),
  [(4, none)]⟩
theorem cf_chnk : compFn Tryd.prog { own := [], comp := [], frz := [], nils := [], bad := true } Tryd.f117 = some sf_chnk := by kernel_rfl
theorem chnk_c (G : Glob) (b : List UInt8) (n : Nat) (hn : 1 ≤ n) : Den Tryd.prog G 117 [.sl (b.map bD), .int .i64 (n : Int)] (.w (.c (.d (.fn 125 [.ref [.sl (b.map bD)], .ref [.int .i64 (n : Int)]])))) := by
  refine den_walk Tryd.func117 cf_chnk rfl rfl ?_
  have h1 : ¬ ((n : Int) < 1) := by omega
  simp only [sf_chnk, putAll, wx, wy, wz, stV, seval, IntWalk.iteOmega, IntWalk.toNatUp, reduceCtorEq]
  exact ret_d1 (by simp only [wx, wy, wz, stV, seval, IntWalk.iteOmega, IntWalk.toNatUp, reduceCtorEq])
theorem roundX {n n' : Nat} {P : Program} {l : Nat} {f : FuncId} {tmps : Array Value} {assign body : Code} {w : World} {R : Ending → World → Prop} (h : RoundIn Fence.wide n P l f tmps assign body w R) : RoundIn Fence.wide n' P l f tmps assign body w R :=
  ⟨h.1, fun c cs _ => h.2 c cs (room_wide _)⟩
theorem reads_cut {S : Cells} {w : World} {vb vo : Nat} {b : List UInt8} (h : RowAt S w ⟨vb, vo, none⟩ 1 (b.map bD)) {i n c : Nat} (h1 : i + n ≤ b.length) (hn : n ≤ c) (hc : c ≤ maxLen) :
    Reads S w (.slice (some ((⟨vb, vo, none⟩ : Addr).add i)) n c) (.sl (((b.drop i).take n).map bD)) := by
  have hl : (((b.drop i).take n).map bD).length = n := by rw [List.length_map, List.length_take, List.length_drop]; omega
  have hrow : RowAt S w ((⟨vb, vo, none⟩ : Addr).add i) 1 (((b.drop i).take n).map bD) := by
    intro j hj
    have hj' : j < n := by omega
    have e : (((b.drop i).take n).map bD)[j] = (b.map bD)[i + j]'(by rw [List.length_map]; omega) := by simp
    rw [e]
    obtain ⟨k1, k2⟩ := h (i + j) (by rw [List.length_map]; omega)
    refine ⟨k1, ?_⟩
    rw [add_none]
    have : vo + (i + j) * 1 = vo + i + j * 1 := by omega
    simp only at k2 ⊢
    rw [this] at k2
    exact k2
  have := Reads.of_row (cap := c) hrow (by omega) hc
  rw [hl] at this
  exact this
theorem chki_seq (G : Glob) (b : List UInt8) (n k : Nat) (hn : 1 ≤ n) (hn2 : n ≤ 140737488355328) (hb : b.length ≤ 140737488355328) (hk : b.length = n * k) : SeqD Tryd.prog G 125 [.ref [.sl (b.map bD)], .ref [.int .i64 (n : Int)]] ((cutM b n k).map fun l => [D.sl (l.map bD)]) := by
  refine ⟨enters_of Tryd.func125 (by kernel_rfl) rfl, ?_⟩
  intro fu w S lb hS hG hlb l J Jx hkeep hgrow hxgrow hround h0
  obtain ⟨p, q, rfl, hp, hq⟩ : ∃ p q, lb = [p, q] ∧ Reads S w p (.ref [.sl (b.map bD)]) ∧ Reads S w q (.ref [.int .i64 (n : Int)]) := by
    cases hlb with
    | cons h1 h2 => cases h2 with | cons h2 h3 => cases h3; exact ⟨_, _, rfl, h1, h2⟩
  obtain ⟨ad, rfl, hcells⟩ := hp.cellsAt
  obtain ⟨sv, hSad, hcell, hsv⟩ := hcells 0 (by simp)
  simp only [List.getElem_cons_zero, Nat.add_zero] at hSad hcell hsv
  obtain ⟨ad2, rfl, hcells2⟩ := hq.cellsAt
  obtain ⟨sv2, hSad2, hcell2, hsv2⟩ := hcells2 0 (by simp)
  simp only [List.getElem_cons_zero, Nat.add_zero] at hSad2 hcell2 hsv2
  cases hsv2
  refine callsIn_of_wp Tryd.func125 rfl trivial ?_
  simp only [Tryd.ntmps125, List.size_toArray, List.length_cons, List.length_nil, Nat.reduceAdd, Nat.reduceSub, Array.replicate_succ, Array.replicate_zero, List.push_toArray, List.append_toArray, List.nil_append, List.cons_append]
  obtain ⟨ab, ao, asp⟩ := ad
  obtain ⟨nb, no, nsp⟩ := ad2
  have hcellW : ∀ k W, J k W → W.cell? ⟨ab, ao, asp⟩ = some sv := fun k W hj => (hkeep k W hj).1.at hSad hcell
  have hcellN : ∀ k W, J k W → W.cell? ⟨nb, no, nsp⟩ = some (.int .i64 (n : Int)) := fun k W hj => (hkeep k W hj).1.at hSad2 hcell2
  gi_wp2
  rcases hsv.row with ⟨rfl, hnil⟩ | ⟨av, cap, sz, rfl, hcap, hmax, hrow⟩
  · have hb0 : b = [] := by simpa using hnil
    subst hb0
    have hk0 : k = 0 := by
      rcases Nat.eq_zero_or_pos k with h | h
      · exact h
      · have := Nat.mul_le_mul_left n h
        simp at hk; omega
    subst hk0
    gi_loopw [4] (fun i wr => i = .int .i64 0 ∧ J 0 wr) (fun i _ => 0)
    case atStart => exact ⟨rfl, h0⟩
    case round =>
      obtain ⟨rfl, hJs⟩ := hrel
      have hc := hcellW 0 wr hJs
      gi_wp2
      go_end0
      exact ⟨⟨_, rfl⟩, .inl hJs⟩
  · have hlen : (b.map bD).length = b.length := List.length_map _
    rw [hlen] at hcap hcellW
    obtain ⟨vb, vo, vs⟩ := av
    gi_loopw [4] (fun i wr => ∃ j p : Nat, j ≤ k ∧ p = n * j ∧ i = .int .i64 ((p : Nat) : Int) ∧ J j wr) (fun i _ => b.length + n - (intOf i).toNat)
    case atStart => exact ⟨0, 0, Nat.zero_le _, rfl, rfl, h0⟩
    case round =>
      obtain ⟨j, p, hj, hp', rfl, hJs⟩ := hrel
      have hc := hcellW j wr hJs
      have hcn := hcellN j wr hJs
      by_cases hlt : j < k
      · have hm := Nat.mul_le_mul_left n (show j + 1 ≤ k from hlt)
        rw [Nat.mul_succ, ← hk, ← hp'] at hm
        obtain ⟨c1, c2⟩ := hrow 0 (by rw [hlen]; omega)
        obtain rfl : sz = 1 := by rw [← c1, List.getElem_map]; rfl
        have hvs : vs = none := by
          obtain ⟨v, _, c3, _⟩ := c2 0 (by rw [List.getElem_map]; exact Nat.one_pos)
          exact cell_spot c3
        subst hvs
        have hget : ((cutM b n k).map fun l => [D.sl (l.map bD)])[j]? = some [D.sl (((b.drop p).take n).map bD)] := by
          rw [List.getElem?_map, cutM_get hlt, ← hp']; rfl
        have hJ2 : J j wr.drew := hgrow j wr wr.drew hJs (Below.refl _ _).drew
        have hc2 := hcellW j wr.drew hJ2
        have hcn2 := hcellN j wr.drew hJ2
        have hE : (((n : Int) * (j : Int) + min (n : Int) ((n * k - n * j : Nat) : Int)).toNat - n * j) = n := by
          rw [← Int.natCast_mul]; omega
        obtain ⟨fn, tmps, assign, body, hy, hR⟩ := hround j _ wr.drew [.slice (some ⟨vb, vo + n * j, none⟩) (((n : Int) * (j : Int) + min (n : Int) ((n * k - n * j : Nat) : Int)).toNat - n * j) (((n : Int) * (j : Int) + min (n : Int) ((n * k - n * j : Nat) : Int)).toNat - n * j)] hget hJ2 (by
          rw [← add_none, hE, hp']
          exact .cons (reads_cut (hrow.keep (hkeep j wr.drew hJ2).1) (by omega) (by omega) (by unfold maxLen; omega)) .nil)
        have hy : (Instr.yield l #[.slice (some ⟨vb, vo + n * j, none⟩) (((n : Int) * (j : Int) + min (n : Int) ((n * k - n * j : Nat) : Int)).toNat - n * j) (((n : Int) * (j : Int) + min (n : Int) ((n * k - n * j : Nat) : Int)).toNat - n * j)]).run Tryd.prog wr.drew = .ok (.round l fn tmps assign body) wr.drew := hy
        clear hE
        gi_wp2
        gi_region
        gi_wp2
        refine ⟨fun h => (by cases h), (roundX hR).mono ?_⟩
        rintro e W3 (⟨rfl, hJ3⟩ | ⟨rfl, hJx3⟩)
        · have hc3 := hcellN (j + 1) W3 hJ3
          gi_wp2
          go_roundw
          case rel => exact ⟨j + 1, n * (j + 1), hlt, rfl, by rw [Nat.mul_succ]; simp, hJ3⟩
          case measure => simp [intOf]; omega
        · gi_wp2
          refine bodyPost_ret (results_none rfl _ _ _) rfl ?_
          exact ⟨⟨_, rfl⟩, .inr hJx3⟩
      · obtain rfl : j = k := by omega
        gi_wp2
        refine bodyPost_end (results_none rfl _ _ _) rfl ?_
        have e : ((cutM b n j).map fun l => [D.sl (l.map bD)]).length = j := by
          rw [List.length_map, cutM_len]
        rw [e]
        exact ⟨⟨_, rfl⟩, .inl hJs⟩
/-! ### AppendSeq to nil, Collect -/
abbrev asqL : List (Nat × V) := [(2, .w (.c (.ptr 1 1 0 0)))]
def asqF : Nat → V := ofL asqL
def asqV : Nat → C
  | 0 => .nil
  | j + 1 => .own 2 1 0 (j + 1)
def asqO (l : List (List UInt8)) : Nat → List (Nat × Ob)
  | 0 => [(1, .box [.nil])]
  | j + 1 => [(1, .box [.own 2 1 0 (j + 1)]), (2, .row 1 ((l.take (j + 1)).map fun l => D.sl (l.map bD)))]
def asqU : Nat → List Nat
  | 0 => [1]
  | _ + 1 => [1, 2]
def asqH (l : List (List UInt8)) (k : Nat) : Heap × (Nat → Bool) := (hL (asqO l k), uL (asqU k))
theorem ofL_unX {l : List (Nat × V)} {ts : List Nat} (h : ts.all (fun t => !(l.map (·.1)).contains t) = true) : ∀ t ∈ ts, ofL l t = .undef := by
  intro t ht
  have h1 := List.all_eq_true.1 h t ht
  have h2 : t ∉ l.map (·.1) := by simpa using h1
  clear h h1 ht
  induction l with
  | nil => rfl
  | cons p l ih =>
    simp only [List.map_cons, List.mem_cons, not_or] at h2
    show upd (ofL l) p.1 p.2 t = _
    unfold upd
    rw [if_neg h2.1]
    exact ih h2.2
def lp_asq_0 : SCode :=
  .reg [⟨(some 5), .mv (.t 7), none⟩]
def lp_asq_1 : SCode :=
  .block 1 (.reg [⟨(some 8), .load .sc (.t 2), none⟩,
     ⟨(some 9), .mv (.t 5), none⟩,
     ⟨(some 10), .bldSl false 1 1 (.sl []) [(0, (.t 9))], none⟩,
     ⟨(some 11), .app false 1 24 (.t 8) (.t 10), none⟩,
     ⟨none, .store .sc (.t 2) (.t 11), none⟩])
def sf_asq : SFn := ⟨2, 13,
  .seq (.reg [⟨(some 2), .box .ownBox (.t 0), none⟩,
    ⟨(some 4), .mv (.k (.c .nil)), none⟩])
  (.seq (.seq (.reg [⟨(some 6), .mv (.t 1), none⟩])
  (.block 0 (.rangeF (.t 6) [7] lp_asq_0 lp_asq_1)))
  (.seq (.reg [⟨(some 12), .load .sc (.t 2), none⟩,
    ⟨(some 4), .mv (.t 12), none⟩])
  (.ret))),
  [(4, none)]⟩
theorem cf_asq : compFn Tryd.prog { own := [2], comp := [], frz := [], nils := [] } Tryd.f124 = some sf_asq := by kernel_rfl
set_option maxHeartbeats 1600000 in
theorem asq_w (G : Glob) (l : List (List UInt8)) (g : Nat) (caps : List D) (hl0 : l.length ≤ 1000000000) (hs : SeqD Tryd.prog G g caps (l.map fun l => [D.sl (l.map bD)])) : DenW Tryd.prog G 124 [.c .nil, .c (.d (.fn g caps))] (.w (.c (.fr 1 (l.map fun l => D.sl (l.map bD))))) := by
  refine denW_walk Tryd.func124 cf_asq rfl rfl rfl ?_
  simp only [sf_asq, putW, wx, wy, wz, stV, seval, IntWalk.iteOmega, IntWalk.toNatUp, reduceCtorEq]
  refine range_st asqF (f1 := ofL asqL) rfl (asqH l) rfl hs ?_ ?_ ?_ ?_ ?_
  · intro r hr
    obtain ⟨x, _, rfl⟩ := List.mem_map.1 hr
    rfl
  · refine ent_l (fun _ => 16) ?_ ?_ rfl rfl <;> simp only [asqL, asqO, asqU, wx, wex, wez, stV, seval, IntWalk.iteOmega, IntWalk.toNatUp, reduceCtorEq]
  · exact ofL_unX (by rfl)
  · intro k r hr
    obtain ⟨hk, rfl⟩ : ∃ h : k < l.length, r = [D.sl (l[k].map bD)] := by
      rw [List.getElem?_map] at hr
      rcases Nat.lt_or_ge k l.length with h | h
      · rw [List.getElem?_eq_getElem h] at hr
        exact ⟨h, by simpa using hr.symm⟩
      · rw [List.getElem?_eq_none h] at hr
        cases hr
    have ht : (l.take k).map (fun l => D.sl (l.map bD)) ++ [D.sl (l[k].map bD)] = (l.take (k + 1)).map fun l => D.sl (l.map bD) := by
      rw [List.take_succ_eq_append_getElem hk, List.map_append]; rfl
    have hl : (l.take (k + 1)).length = k + 1 := by rw [List.length_take]; omega
    rcases k with _ | k
    · have ht : [D.sl (l[0].map bD)] = (l.take (0 + 1)).map fun l => D.sl (l.map bD) := by rw [← ht]; rfl
      simp only [lp_asq_0, lp_asq_1, asqH, asqO, asqU, asqL, parsL, wx, wy, wz, stV, seval, IntWalk.iteOmega, IntWalk.toNatUp, reduceCtorEq, srcV]
      refine rng_next (f1 := ofL asqL) rfl ?_
      refine ent_l (fun i => if i = 1 then 1 else 88) ?_ ?_ rfl rfl <;> simp only [asqL, asqO, asqU, wx, wex, wez, stV, seval, IntWalk.iteOmega, IntWalk.toNatUp, reduceCtorEq, ht, hl]
    · have hl2 : (l.take (k + 1)).length = k + 1 := by rw [List.length_take]; omega
      simp only [lp_asq_0, lp_asq_1, asqH, asqO, asqU, asqL, parsL, wx, wy, wz, stV, seval, IntWalk.iteOmega, IntWalk.toNatUp, reduceCtorEq, srcV, hl2]
      refine rng_next (f1 := ofL asqL) rfl ?_
      refine ent_l (fun i => if i = 1 then 1 else 88) ?_ ?_ rfl rfl <;> simp only [asqL, asqO, asqU, wx, wex, wez, stV, seval, IntWalk.iteOmega, IntWalk.toNatUp, reduceCtorEq, ht, hl, hl2]
  · rw [List.length_map]
    have ht : l.take l.length = l := List.take_of_length_le (Nat.le_refl _)
    rcases hn : l.length with _ | n
    · have h0 : l = [] := List.length_eq_zero_iff.1 hn
      subst h0
      simp only [asqH, asqO, asqU, asqL, wx, wy, wz, stV, seval, IntWalk.iteOmega, IntWalk.toNatUp, reduceCtorEq]
      exact ret_f1 (by simp only [wx, wy, wz, stV, seval, IntWalk.iteOmega, IntWalk.toNatUp, reduceCtorEq])
    · rw [hn] at ht
      simp only [asqH, asqO, asqU, asqL, wx, wy, wz, stV, seval, IntWalk.iteOmega, IntWalk.toNatUp, reduceCtorEq, ht]
      exact ret_f1 (by simp only [wx, wy, wz, stV, seval, IntWalk.iteOmega, IntWalk.toNatUp, reduceCtorEq, hn])
def sf_coll : SFn := ⟨1, 5,
  .seq (.reg [⟨(some 2), .mv (.k (.c .nil)), none⟩])
  (.seq (.reg [⟨(some 3), .mv (.t 0), none⟩,
    ⟨(some 4), .call 124 [(.k (.c .nil)), (.t 3)] (some (0, 1)), none⟩,
    ⟨(some 2), .mv (.t 4), none⟩])
  (.ret)),
  [(2, none)]⟩
theorem cf_coll : compFn Tryd.prog { own := [4], comp := [], frz := [], nils := [] } Tryd.f116 = some sf_coll := by kernel_rfl
theorem coll_f (G : Glob) (l : List (List UInt8)) (g : Nat) (caps : List D) (hl0 : l.length ≤ 1000000000) (hs : SeqD Tryd.prog G g caps (l.map fun l => [D.sl (l.map bD)])) : Den Tryd.prog G 116 [.fn g caps] (.w (.c (.fr 1 (l.map fun l => D.sl (l.map bD))))) := by
  refine den_walk Tryd.func116 cf_coll rfl rfl ?_
  simp only [sf_coll, putAll, wx, wy, wz, stV, seval, IntWalk.iteOmega, IntWalk.toNatUp, reduceCtorEq]
  refine st_callW (asq_w G l g caps hl0 hs) rfl rfl (.inl rfl) ?_
  simp only [wx, wy, wz, stV, seval, IntWalk.iteOmega, IntWalk.toNatUp, reduceCtorEq]
  exact ret_f1 (by simp only [wx, wy, wz, stV, seval, IntWalk.iteOmega, IntWalk.toNatUp, reduceCtorEq])
def sf_pcs : SFn := ⟨2, 9,
  .seq (.reg [⟨(some 4), .mv (.k (.c .nil)), none⟩])
  (.seq (.reg [⟨(some 5), .mv (.t 0), none⟩,
    ⟨(some 6), .mv (.t 1), none⟩,
    ⟨(some 7), .call 117 [(.t 5), (.t 6)] none, none⟩,
    ⟨(some 8), .call 116 [(.t 7)] (some (0, 1)), none⟩,
    ⟨(some 4), .mv (.t 8), none⟩])
  (.ret)),
  [(4, none)]⟩
theorem cf_pcs : compFn Tryd.prog { own := [8], comp := [], frz := [], nils := [] } Tryd.f90 = some sf_pcs := by kernel_rfl
theorem pcs_f (G : Glob) (b : List UInt8) (n k : Nat) (hn : 1 ≤ n) (hn2 : n ≤ 140737488355328) (hb : b.length ≤ 140737488355328) (hk : b.length = n * k) (hk2 : k ≤ 1000000000) : Den Tryd.prog G 90 [.sl (b.map bD), .int .i64 (n : Int)] (.w (.c (.fr 1 ((cutM b n k).map fun l => D.sl (l.map bD))))) := by
  refine den_walk Tryd.func90 cf_pcs rfl rfl ?_
  simp only [sf_pcs, putAll, wx, wy, wz, stV, seval, IntWalk.iteOmega, IntWalk.toNatUp, reduceCtorEq]
  refine st_call (chnk_c G b n hn) rfl (.inl rfl) ?_
  simp only [wx, wy, wz, stV, seval, IntWalk.iteOmega, IntWalk.toNatUp, reduceCtorEq]
  refine st_call (coll_f G (cutM b n k) _ _ (by rw [cutM_len]; exact hk2) (chki_seq G b n k hn hn2 hb hk)) rfl (.inl rfl) ?_
  simp only [wx, wy, wz, stV, seval, IntWalk.iteOmega, IntWalk.toNatUp, reduceCtorEq]
  exact ret_f1 (by simp only [wx, wy, wz, stV, seval, IntWalk.iteOmega, IntWalk.toNatUp, reduceCtorEq])
end Go.Proofs.YtjgkchmdhicmpaaDoor
set_option linter.unusedVariables false
set_option linter.unusedSimpArgs false
namespace Go.Proofs.YtjgkchmdhicmpaaDoor
open Go.RowKit

/-- A key for several messages. -/
abbrev keyD (seed : List UInt8) (h n : Int) : D := .agg [.sl (seed.map bD), .int .i64 h, .int .i64 n]
theorem shl6 {h : Nat} (hh : h ≤ 6) : binV .shl (.w (.c (.d (.int .i64 1)))) (.w (.c (.d (.int .i64 (h : Int))))) = some (.int .i64 ((2 ^ h : Nat) : Int)) := by
  have : h = 0 ∨ h = 1 ∨ h = 2 ∨ h = 3 ∨ h = 4 ∨ h = 5 ∨ h = 6 := by omega
  rcases this with rfl | rfl | rfl | rfl | rfl | rfl | rfl <;> rfl
theorem shl6u {h : Nat} (hh : h ≤ 6) : binV .shl (.w (.c (.d (.int .i64 1)))) (.w (.c (.d (.int .u64 (h : Int))))) = some (.int .i64 ((2 ^ h : Nat) : Int)) := by
  have : h = 0 ∨ h = 1 ∨ h = 2 ∨ h = 3 ∨ h = 4 ∨ h = 5 ∨ h = 6 := by omega
  rcases this with rfl | rfl | rfl | rfl | rfl | rfl | rfl <;> rfl
def sf_nsz : SFn := ⟨1, 5,
  .seq (.reg [⟨(some 2), .mv (.k (.c (.d (.int .i64 0)))), none⟩])
  (.seq (.reg [⟨(some 3), .mv (.t 0), none⟩,
    ⟨(some 4), .bin .shl (.k (.c (.d (.int .i64 1)))) (.t 3), none⟩,
    ⟨(some 2), .mv (.t 4), none⟩])
  (.ret)),
  [(2, none)]⟩
theorem cf_nsz : compFn Tryd.prog { own := [], comp := [], frz := [], nils := [] } Tryd.f52 = some sf_nsz := by kernel_rfl
theorem nsz_c (G : Glob) (h : Nat) (hh : h ≤ 6) : Den Tryd.prog G 52 [.int .i64 (h : Int)] (.w (.c (.d (.int .i64 ((2 ^ h : Nat) : Int))))) := by
  refine den_walk Tryd.func52 cf_nsz rfl rfl ?_
  have e := shl6 hh
  generalize 2 ^ h = m at *
  simp only [sf_nsz, putAll, wx, wy, wz, stV, seval, IntWalk.iteOmega, IntWalk.toNatUp, reduceCtorEq, e]
  exact ret_d1 (by simp only [wx, wy, wz, stV, seval, IntWalk.iteOmega, IntWalk.toNatUp, reduceCtorEq])
def sf_nchk : SFn := ⟨2, 14,
  .seq (.reg [⟨(some 4), .mv (.k (.c (.d (.int .i64 0)))), none⟩])
  (.seq (.seq (.reg [⟨(some 5), .mv (.t 0), none⟩,
    ⟨(some 6), .len (.t 5), none⟩,
    ⟨(some 7), .bin .neq (.t 6) (.k (.c (.d (.int .i64 32)))), none⟩])
  (.cond (.t 7) (.seq (.reg [⟨(some 4), .mv (.k (.c (.d (.int .i64 5)))), none⟩])
   (.ret))
   (.skip)))
  (.seq (.seq (.reg [⟨(some 8), .mv (.t 1), none⟩,
    ⟨(some 9), .bin .lss (.t 8) (.k (.c (.d (.int .i64 0)))), none⟩,
    ⟨(some 10), .mv (.t 9), none⟩,
    ⟨(some 11), .mv (.t 1), (some (10, false))⟩,
    ⟨(some 12), .bin .gtr (.t 11) (.k (.c (.d (.int .i64 6)))), (some (10, false))⟩,
    ⟨(some 13), .pick (.t 10) (.k (.c (.d (.bool true)))) (.t 12), none⟩])
  (.cond (.t 13) (.seq (.reg [⟨(some 4), .mv (.k (.c (.d (.int .i64 4)))), none⟩])
   (.ret))
   (.skip)))
  (.seq (.reg [⟨(some 4), .mv (.k (.c (.d (.int .i64 0)))), none⟩])
  (.ret)))),
  [(4, none)]⟩
theorem cf_nchk : compFn Tryd.prog { own := [], comp := [], frz := [], nils := [] } Tryd.f53 = some sf_nchk := by kernel_rfl
theorem nchk_c (G : Glob) (seed : List UInt8) (h : Int) : Den Tryd.prog G 53 [.sl (seed.map bD), .int .i64 h] (.w (.c (.d (.int .i64 (sckE seed h))))) := by
  refine den_walk Tryd.func53 cf_nchk rfl rfl ?_
  unfold sckE
  by_cases hl : seed.length = 32
  · rw [if_neg (by omega)]
    by_cases h1 : h < 0
    · rw [if_pos (.inl h1)]
      simp only [sf_nchk, putAll, wx, wy, wz, stV, seval, IntWalk.iteOmega, IntWalk.toNatUp, reduceCtorEq, hl]
      exact ret_d1 (by simp only [wx, wy, wz, stV, seval, IntWalk.iteOmega, IntWalk.toNatUp, reduceCtorEq])
    · by_cases h2 : 6 < h
      · rw [if_pos (.inr h2)]
        simp only [sf_nchk, putAll, wx, wy, wz, stV, seval, IntWalk.iteOmega, IntWalk.toNatUp, reduceCtorEq, hl]
        exact ret_d1 (by simp only [wx, wy, wz, stV, seval, IntWalk.iteOmega, IntWalk.toNatUp, reduceCtorEq])
      · rw [if_neg (by omega)]
        simp only [sf_nchk, putAll, wx, wy, wz, stV, seval, IntWalk.iteOmega, IntWalk.toNatUp, reduceCtorEq, hl]
        exact ret_d1 (by simp only [wx, wy, wz, stV, seval, IntWalk.iteOmega, IntWalk.toNatUp, reduceCtorEq])
  · rw [if_pos hl]
    simp only [sf_nchk, putAll, wx, wy, wz, stV, seval, IntWalk.iteOmega, IntWalk.toNatUp, reduceCtorEq]
    exact ret_d1 (by simp only [wx, wy, wz, stV, seval, IntWalk.iteOmega, IntWalk.toNatUp, reduceCtorEq])
theorem sval_1 {seed : List UInt8} {h n : Int} (e : ¬ sckE seed h = 0) : svalB seed h n = false := decide_eq_false fun k => e k.1
theorem sval_2 {seed : List UInt8} {h n : Int} (e : n < 0) : svalB seed h n = false := decide_eq_false fun k => by omega
theorem sval_ok {seed : List UInt8} {h n : Int} (e : svalB seed h n = true) : seed.length = 32 ∧ 0 ≤ h ∧ h ≤ 6 ∧ 0 ≤ n ∧ n ≤ ((2 ^ h.toNat : Nat) : Int) := by
  unfold svalB at e
  obtain ⟨e1, e2, e3⟩ := of_decide_eq_true e
  obtain ⟨a, b, c⟩ := sckE_ok e1
  exact ⟨a, b, c, e2, e3⟩
def sf_nval : SFn := ⟨1, 22,
  .seq (.reg [⟨(some 1), .box .roBox (.t 0), none⟩,
    ⟨(some 2), .mv (.k (.c (.d (.bool false)))), none⟩])
  (.seq (.reg [⟨(some 3), .fieldAddr 0 (.t 1), none⟩,
    ⟨(some 4), .load .sc (.t 3), none⟩,
    ⟨(some 5), .fieldAddr 1 (.t 1), none⟩,
    ⟨(some 6), .load .sc (.t 5), none⟩,
    ⟨(some 7), .call 53 [(.t 4), (.t 6)] none, none⟩,
    ⟨(some 8), .bin .eql (.t 7) (.k (.c (.d (.int .i64 0)))), none⟩,
    ⟨(some 9), .mv (.t 8), none⟩,
    ⟨(some 10), .fieldAddr 2 (.t 1), (some (9, true))⟩,
    ⟨(some 11), .load .sc (.t 10), (some (9, true))⟩,
    ⟨(some 12), .bin .geq (.t 11) (.k (.c (.d (.int .i64 0)))), (some (9, true))⟩,
    ⟨(some 13), .pick (.t 9) (.t 12) (.k (.c (.d (.bool false)))), none⟩,
    ⟨(some 14), .mv (.t 13), none⟩,
    ⟨(some 15), .fieldAddr 2 (.t 1), (some (14, true))⟩,
    ⟨(some 16), .load .sc (.t 15), (some (14, true))⟩,
    ⟨(some 17), .fieldAddr 1 (.t 1), (some (14, true))⟩,
    ⟨(some 18), .load .sc (.t 17), (some (14, true))⟩,
    ⟨(some 19), .call 52 [(.t 18)] none, (some (14, true))⟩,
    ⟨(some 20), .bin .leq (.t 16) (.t 19), (some (14, true))⟩,
    ⟨(some 21), .pick (.t 14) (.t 20) (.k (.c (.d (.bool false)))), none⟩,
    ⟨(some 2), .mv (.t 21), none⟩])
  (.ret)),
  [(2, none)]⟩
theorem cf_nval : compFn Tryd.prog { own := [], comp := [], frz := [], nils := [] } Tryd.f16 = some sf_nval := by kernel_rfl
theorem nval_c (G : Glob) (seed : List UInt8) (h n : Int) : Den Tryd.prog G 16 [keyD seed h n] (.w (.c (.d (.bool (svalB seed h n))))) := by
  refine den_walk Tryd.func16 cf_nval rfl rfl ?_
  have hk := nchk_c G seed h
  by_cases e : sckE seed h = 0
  · obtain ⟨k1, k2, k3⟩ := sckE_ok e
    by_cases h1 : n < 0
    · rw [sval_2 h1]
      rw [e] at hk
      simp only [sf_nval, putAll, wx, wy, wz, stV, seval, IntWalk.iteOmega, IntWalk.toNatUp, reduceCtorEq]
      refine st_call (hk) rfl (.inl rfl) ?_
      simp only [wx, wy, wz, stV, seval, IntWalk.iteOmega, IntWalk.toNatUp, reduceCtorEq]
      exact ret_d1 (by simp only [wx, wy, wz, stV, seval, IntWalk.iteOmega, IntWalk.toNatUp, reduceCtorEq])
    · have hn : 0 ≤ n := by omega
      rw [e] at hk
      obtain ⟨m, rfl⟩ := Int.eq_ofNat_of_zero_le k2
      have hs := nsz_c G m (by omega)
      have hV : svalB seed (m : Int) n = decide (n ≤ ((2 ^ m : Nat) : Int)) := by
        unfold svalB
        simp only [e, hn, true_and]
        rfl
      rw [hV]
      generalize 2 ^ m = p at *
      by_cases h2 : n ≤ (p : Int)
      · rw [decide_eq_true h2]
        simp only [sf_nval, putAll, wx, wy, wz, stV, seval, IntWalk.iteOmega, IntWalk.toNatUp, reduceCtorEq]
        refine st_call (hk) rfl (.inl rfl) ?_
        simp only [wx, wy, wz, stV, seval, IntWalk.iteOmega, IntWalk.toNatUp, reduceCtorEq]
        refine st_call (hs) rfl (.inl rfl) ?_
        simp only [wx, wy, wz, stV, seval, IntWalk.iteOmega, IntWalk.toNatUp, reduceCtorEq]
        exact ret_d1 (by simp only [wx, wy, wz, stV, seval, IntWalk.iteOmega, IntWalk.toNatUp, reduceCtorEq])
      · rw [decide_eq_false h2]
        simp only [sf_nval, putAll, wx, wy, wz, stV, seval, IntWalk.iteOmega, IntWalk.toNatUp, reduceCtorEq]
        refine st_call (hk) rfl (.inl rfl) ?_
        simp only [wx, wy, wz, stV, seval, IntWalk.iteOmega, IntWalk.toNatUp, reduceCtorEq]
        refine st_call (hs) rfl (.inl rfl) ?_
        simp only [wx, wy, wz, stV, seval, IntWalk.iteOmega, IntWalk.toNatUp, reduceCtorEq]
        exact ret_d1 (by simp only [wx, wy, wz, stV, seval, IntWalk.iteOmega, IntWalk.toNatUp, reduceCtorEq])
  · rw [sval_1 e]
    generalize sckE seed h = x at *
    simp only [sf_nval, putAll, wx, wy, wz, stV, seval, IntWalk.iteOmega, IntWalk.toNatUp, reduceCtorEq]
    refine st_call (hk) rfl (.inl rfl) ?_
    simp only [wx, wy, wz, stV, seval, IntWalk.iteOmega, IntWalk.toNatUp, reduceCtorEq]
    exact ret_d1 (by simp only [wx, wy, wz, stV, seval, IntWalk.iteOmega, IntWalk.toNatUp, reduceCtorEq])
def sf_nlft : SFn := ⟨1, 13,
  .seq (.reg [⟨(some 1), .box .roBox (.t 0), none⟩,
    ⟨(some 2), .mv (.k (.c (.d (.int .i64 0)))), none⟩,
    ⟨(some 3), .mv (.k (.c (.d (.int .i64 0)))), none⟩])
  (.seq (.seq (.reg [⟨(some 4), .load (.ag 3) (.t 1), none⟩,
    ⟨(some 5), .call 16 [(.t 4)] none, none⟩,
    ⟨(some 6), .un .not (.t 5), none⟩])
  (.cond (.t 6) (.seq (.reg [⟨(some 2), .mv (.k (.c (.d (.int .i64 0)))), none⟩,
     ⟨(some 3), .mv (.k (.c (.d (.int .i64 3)))), none⟩])
   (.ret))
   (.skip)))
  (.seq (.reg [⟨(some 7), .fieldAddr 1 (.t 1), none⟩,
    ⟨(some 8), .load .sc (.t 7), none⟩,
    ⟨(some 9), .call 52 [(.t 8)] none, none⟩,
    ⟨(some 10), .fieldAddr 2 (.t 1), none⟩,
    ⟨(some 11), .load .sc (.t 10), none⟩,
    ⟨(some 12), .bin .sub (.t 9) (.t 11), none⟩,
    ⟨(some 2), .mv (.t 12), none⟩,
    ⟨(some 3), .mv (.k (.c (.d (.int .i64 0)))), none⟩])
  (.ret))),
  [(2, none), (3, none)]⟩
theorem cf_nlft : compFn Tryd.prog { own := [], comp := [], frz := [], nils := [] } Tryd.f14 = some sf_nlft := by kernel_rfl
theorem nlft_c (G : Glob) (seed : List UInt8) (h n : Int) : Den Tryd.prog G 14 [keyD seed h n] (.tup [.c (.d (.int .i64 (sleftV seed h n))), .c (.d (.int .i64 (sleftE seed h n)))]) := by
  refine den_walk Tryd.func14 cf_nlft rfl rfl ?_
  have hk := nval_c G seed h n
  unfold sleftV sleftE
  cases e : svalB seed h n
  · rw [e] at hk
    simp only [sf_nlft, putAll, wx, wy, wz, stV, seval, IntWalk.iteOmega, IntWalk.toNatUp, reduceCtorEq]
    refine st_call (hk) rfl (.inl rfl) ?_
    simp only [wx, wy, wz, stV, seval, IntWalk.iteOmega, IntWalk.toNatUp, reduceCtorEq]
    exact ret_d2 (by simp only [wx, wy, wz, stV, seval, IntWalk.iteOmega, IntWalk.toNatUp, reduceCtorEq]) (by simp only [wx, wy, wz, stV, seval, IntWalk.iteOmega, IntWalk.toNatUp, reduceCtorEq])
  · rw [e] at hk
    obtain ⟨k1, k2, k3, k4, k5⟩ := sval_ok e
    obtain ⟨m, rfl⟩ := Int.eq_ofNat_of_zero_le k2
    have h64 := pow6 (h := m) (by omega)
    have hs := nsz_c G m (by omega)
    have et : ((m : Int).toNat) = m := rfl
    rw [et] at k5 ⊢
    generalize 2 ^ m = p at *
    simp only [sf_nlft, putAll, wx, wy, wz, stV, seval, IntWalk.iteOmega, IntWalk.toNatUp, reduceCtorEq]
    refine st_call (hk) rfl (.inl rfl) ?_
    simp only [wx, wy, wz, stV, seval, IntWalk.iteOmega, IntWalk.toNatUp, reduceCtorEq]
    refine st_call (hs) rfl (.inl rfl) ?_
    simp only [wx, wy, wz, stV, seval, IntWalk.iteOmega, IntWalk.toNatUp, reduceCtorEq]
    exact ret_d2 (by simp only [wx, wy, wz, stV, seval, IntWalk.iteOmega, IntWalk.toNatUp, reduceCtorEq]) (by simp only [wx, wy, wz, stV, seval, IntWalk.iteOmega, IntWalk.toNatUp, reduceCtorEq])
theorem pubV_ok {seed : List UInt8} {i : Nat} (h : seed.length = 32) (hi : i ≤ 2147483647) : chkE seed (i : Int) = 0 ∧ pubV seed (i : Int) = pubM seed i := by
  have hk : chkE seed (i : Int) = 0 := by unfold chkE; rw [if_neg (by omega), if_neg (by omega)]
  exact ⟨hk, if_pos hk⟩
def nlvSt (seed : List UInt8) (N j : Nat) : St := ⟨ofL [(0, .w (.c (.d (.sl (seed.map bD))))), (5, .w (.c (.own 1 1 0 N))), (11, .w (.c (.d (.int .i64 (N : Int))))), (12, .w (.c (.d (.int .i64 (j : Int)))))], hL [(1, .row 1 ((lvsN seed j ++ List.replicate (N - j) []).map fun l : List UInt8 => D.sl (l.map bD)))], uL [1]⟩
theorem lvs_set (seed : List UInt8) {N j : Nat} (h : j < N) : (lvsN seed j ++ List.replicate (N - j) []).set j (pubM seed j) = lvsN seed (j + 1) ++ List.replicate (N - (j + 1)) [] := by
  have hl := lvsN_len seed j
  rw [List.set_append_right _ _ (by omega), hl, Nat.sub_self, show N - j = (N - (j + 1)) + 1 by omega, List.replicate_succ, List.set_cons_zero, ← lvsN_succ, List.append_assoc]; rfl
def lp_nlvs_0 : SCode :=
  .seq (.reg [⟨(some 13), .bin .lss (.t 12) (.t 11), none⟩])
  (.seq (.cond (.t 13) (.skip)
   (.exit 0))
  (.seq (.block 1 (.seq (.reg [⟨(some 14), .mv (.t 12), none⟩,
     ⟨(some 6), .mv (.t 14), none⟩])
   (.reg [⟨(some 16), .mv (.t 5), none⟩,
     ⟨(some 17), .mv (.t 6), none⟩,
     ⟨(some 18), .mv (.t 0), none⟩,
     ⟨(some 19), .mv (.t 6), none⟩,
     ⟨(some 20), .call 98 [(.t 18), (.t 19)] none, none⟩,
     ⟨(some 15), .mv (.t 20), none⟩,
     ⟨(some 21), .extract (.t 15) 0, none⟩,
     ⟨(some 22), .extract (.t 15) 1, none⟩,
     ⟨(some 23), .idxSl 1 (.t 16) (.t 17), none⟩,
     ⟨none, .store .sc (.t 23) (.t 21), none⟩])))
  (.reg [⟨(some 24), .bin .add (.t 12) (.k (.c (.d (.int .i64 1)))), none⟩,
    ⟨(some 12), .mv (.t 24), none⟩])))
def sf_nlvs : SFn := ⟨2, 26,
  .seq (.reg [⟨(some 4), .mv (.k (.c .nil)), none⟩])
  (.seq (.reg [⟨(some 7), .mv (.t 1), none⟩,
    ⟨(some 8), .call 52 [(.t 7)] none, none⟩,
    ⟨(some 9), .make 1 24 (.sl []) (.t 8) (.t 8), none⟩,
    ⟨(some 5), .mv (.t 9), none⟩])
  (.seq (.seq (.reg [⟨(some 10), .mv (.t 5), none⟩,
    ⟨(some 11), .len (.t 10), none⟩,
    ⟨(some 12), .mv (.k (.c (.d (.int .i64 0)))), none⟩])
  (.block 0 (.loop lp_nlvs_0)))
  (.seq (.reg [⟨(some 25), .mv (.t 5), none⟩,
    ⟨(some 4), .mv (.t 25), none⟩])
  (.ret)))),
  [(4, none)]⟩
theorem cf_nlvs : compFn Tryd.prog { own := [], comp := [], frz := [], nils := [] } Tryd.f60 = some sf_nlvs := by kernel_rfl
set_option maxHeartbeats 1600000 in
theorem nlvs_f (G : Glob) (hF : G.at 0 = some (.ra (firstK.map wD))) (hG : G.at 1 = some (.ra (constK.map wD))) (seed : List UInt8) (h : Nat) (hs : seed.length = 32) (hh : h ≤ 6) : Den Tryd.prog G 60 [.sl (seed.map bD), .int .i64 (h : Int)] (.w (.c (.fr 1 ((lvsM seed h).map fun l => D.sl (l.map bD))))) := by
  refine den_walk Tryd.func60 cf_nlvs rfl rfl ?_
  have h64 := pow6 hh
  have hz := nsz_c G h hh
  have hV : lvsM seed h = lvsN seed (2 ^ h) := rfl
  rw [hV]
  generalize 2 ^ h = N at *
  simp only [sf_nlvs, putAll, wx, wy, wz, stV, seval, IntWalk.iteOmega, IntWalk.toNatUp, reduceCtorEq]
  refine st_call (hz) rfl (.inl rfl) ?_
  simp only [wx, wy, wz, stV, seval, IntWalk.iteOmega, IntWalk.toNatUp, reduceCtorEq]
  have hr : List.replicate N (D.sl []) = (List.replicate N ([] : List UInt8)).map fun l => D.sl (l.map bD) := by rw [List.map_replicate]; rfl
  refine loop_st (nlvSt seed N) (fun j => N - j) (fun j => j ≤ N) 0 (Nat.zero_le _) ?_ ?_
  · refine ent_l (fun _ => 72) ?_ ?_ rfl rfl <;> simp only [wx, wex, wez, stV, seval, IntWalk.iteOmega, IntWalk.toNatUp, reduceCtorEq, hr, lvsN, List.range_zero, List.map_nil, List.nil_append, Nat.sub_zero]
  · intro j hj
    have hl := lvsN_len seed j
    by_cases hlt : j < N
    · have hp := pub_c G hF hG seed (j : Int)
      rw [(pubV_ok hs (by omega)).1, (pubV_ok hs (by omega)).2] at hp
      have hset := lvs_set seed hlt
      have hset2 : ((lvsN seed j ++ List.replicate (N - j) []).map fun l : List UInt8 => D.sl (l.map bD)).set j (.sl ((pubM seed j).map bD)) = (lvsN seed (j + 1) ++ List.replicate (N - (j + 1)) []).map fun l : List UInt8 => D.sl (l.map bD) := by rw [← hset, List.map_set]
      generalize pubM seed j = x at *
      have hln : (lvsN seed j ++ List.replicate (N - j) ([] : List UInt8)).length = N := by rw [List.length_append, List.length_replicate, hl]; omega
      have g1 : (lvsN seed j ++ List.replicate (N - j) ([] : List UInt8))[j]? = some [] := by
        rw [List.getElem?_append_right (by omega), hl, Nat.sub_self, List.getElem?_replicate, if_pos (by omega)]
      simp only [lp_nlvs_0, nlvSt, wx, wy, wz, stV, seval, IntWalk.iteOmega, IntWalk.toNatUp, reduceCtorEq]
      refine st_call (hp) rfl (.inl rfl) ?_
      simp only [hln, get_map, g1, hset2, wx, wy, wz, stV, seval, IntWalk.iteOmega, IntWalk.toNatUp, reduceCtorEq]
      refine lop_next (j + 1) (by omega) (by omega) (ent_l (fun i => i) ?_ ?_ rfl rfl) <;> simp only [wx, wex, wez, stV, seval, IntWalk.iteOmega, IntWalk.toNatUp, reduceCtorEq]
    · obtain rfl : j = N := by omega
      have hln : lvsN seed j ++ List.replicate (j - j) ([] : List UInt8) = lvsN seed j := by rw [Nat.sub_self]; simp
      simp only [lp_nlvs_0, nlvSt, wx, wy, wz, stV, seval, IntWalk.iteOmega, IntWalk.toNatUp, reduceCtorEq, hln]
      exact ret_f1 (by simp only [wx, wy, wz, stV, seval, IntWalk.iteOmega, IntWalk.toNatUp, reduceCtorEq, hl])
theorem nlvs_c (G : Glob) (hF : G.at 0 = some (.ra (firstK.map wD))) (hG : G.at 1 = some (.ra (constK.map wD))) (seed : List UInt8) (h : Nat) (hs : seed.length = 32) (hh : h ≤ 6) : Den Tryd.prog G 60 [.sl (seed.map bD), .int .i64 (h : Int)] (.w (.c (.d (sls (lvsM seed h))))) := den_ro (nlvs_f G hF hG seed h hs hh)
theorem srtV_ok {seed : List UInt8} {h : Nat} (hh : h ≤ 6) : rootV (lvsM seed h) = rootM (lvsM seed h) ∧ rootE (lvsM seed h) = 0 := by
  have h64 := pow6 hh
  have hl := lvsM_len seed h
  unfold rootV rootE
  rw [if_neg (by omega), if_neg (by omega)]
  exact ⟨rfl, rfl⟩
theorem lvs_big {seed : List UInt8} {h : Nat} (hh : h ≤ 6) : (lvsM seed h).length ≤ 9223372036854775807 ∧ ∀ x ∈ lvsM seed h, x.length ≤ 1000000000 := by
  have h64 := pow6 hh
  have hl := lvsM_len seed h
  exact ⟨by omega, fun x hx => by rw [lvsN_mem x hx]; decide⟩
def sf_npub : SFn := ⟨2, 19,
  .seq (.reg [⟨(some 4), .mv (.k (.c .nil)), none⟩,
    ⟨(some 5), .mv (.k (.c (.d (.int .i64 0)))), none⟩])
  (.seq (.seq (.reg [⟨(some 7), .mv (.t 0), none⟩,
    ⟨(some 8), .mv (.t 1), none⟩,
    ⟨(some 9), .call 53 [(.t 7), (.t 8)] none, none⟩,
    ⟨(some 6), .mv (.t 9), none⟩])
  (.seq (.reg [⟨(some 10), .mv (.t 6), none⟩,
    ⟨(some 11), .bin .neq (.t 10) (.k (.c (.d (.int .i64 0)))), none⟩])
  (.cond (.t 11) (.seq (.reg [⟨(some 12), .mv (.t 6), none⟩,
     ⟨(some 4), .mv (.k (.c .nil)), none⟩,
     ⟨(some 5), .mv (.t 12), none⟩])
   (.ret))
   (.skip))))
  (.seq (.reg [⟨(some 13), .mv (.t 0), none⟩,
    ⟨(some 14), .mv (.t 1), none⟩,
    ⟨(some 15), .call 60 [(.t 13), (.t 14)] none, none⟩,
    ⟨(some 16), .call 30 [(.t 15)] (some (0, 1)), none⟩,
    ⟨(some 17), .extract (.t 16) 0, none⟩,
    ⟨(some 18), .extract (.t 16) 1, none⟩,
    ⟨(some 4), .mv (.t 17), none⟩,
    ⟨(some 5), .mv (.t 18), none⟩])
  (.ret))),
  [(4, none), (5, none)]⟩
theorem cf_npub : compFn Tryd.prog { own := [], comp := [(16, 0)], frz := [], nils := [] } Tryd.f26 = some sf_npub := by kernel_rfl
set_option maxHeartbeats 1600000 in
theorem npub_f (G : Glob) (hF : G.at 0 = some (.ra (firstK.map wD))) (hG : G.at 1 = some (.ra (constK.map wD))) (seed : List UInt8) (h : Int) : Den Tryd.prog G 26 [.sl (seed.map bD), .int .i64 h] (.tup [.c (.fr 1 ((spubV seed h).map bD)), .c (.d (.int .i64 (sckE seed h)))]) := by
  refine den_walk Tryd.func26 cf_npub rfl rfl ?_
  have hk := nchk_c G seed h
  unfold spubV
  by_cases e : sckE seed h = 0
  · obtain ⟨k1, k2, k3⟩ := sckE_ok e
    obtain ⟨m, rfl⟩ := Int.eq_ofNat_of_zero_le k2
    have et : ((m : Int).toNat) = m := rfl
    rw [e] at hk
    rw [if_pos e, e, et]
    have hl := nlvs_c G hF hG seed m k1 (by omega)
    have hr := root_f G hF hG (lvsM seed m) (lvs_big (by omega)).1 (lvs_big (by omega)).2
    rw [(srtV_ok (by omega)).1, (srtV_ok (by omega)).2] at hr
    generalize rootM (lvsM seed m) = z at *
    simp only [sf_npub, putAll, wx, wy, wz, stV, seval, IntWalk.iteOmega, IntWalk.toNatUp, reduceCtorEq]
    refine st_call (hk) rfl (.inl rfl) ?_
    simp only [wx, wy, wz, stV, seval, IntWalk.iteOmega, IntWalk.toNatUp, reduceCtorEq]
    refine st_call (hl) rfl (.inl rfl) ?_
    simp only [wx, wy, wz, stV, seval, IntWalk.iteOmega, IntWalk.toNatUp, reduceCtorEq]
    refine st_call (hr) rfl (.inl rfl) ?_
    simp only [wx, wy, wz, stV, seval, IntWalk.iteOmega, IntWalk.toNatUp, reduceCtorEq]
    exact ret_f2 (by simp only [wx, wy, wz, stV, seval, IntWalk.iteOmega, IntWalk.toNatUp, reduceCtorEq]) (by simp only [wx, wy, wz, stV, seval, IntWalk.iteOmega, IntWalk.toNatUp, reduceCtorEq])
  · rw [if_neg e]
    generalize sckE seed h = x at *
    simp only [sf_npub, putAll, wx, wy, wz, stV, seval, IntWalk.iteOmega, IntWalk.toNatUp, reduceCtorEq]
    refine st_call (hk) rfl (.inl rfl) ?_
    simp only [wx, wy, wz, stV, seval, IntWalk.iteOmega, IntWalk.toNatUp, reduceCtorEq]
    exact ret_f2 (by simp only [wx, wy, wz, stV, seval, IntWalk.iteOmega, IntWalk.toNatUp, reduceCtorEq]) (by simp only [wx, wy, wz, stV, seval, IntWalk.iteOmega, IntWalk.toNatUp, reduceCtorEq])
theorem npub_c (G : Glob) (hF : G.at 0 = some (.ra (firstK.map wD))) (hG : G.at 1 = some (.ra (constK.map wD))) (seed : List UInt8) (h : Int) : Den Tryd.prog G 26 [.sl (seed.map bD), .int .i64 h] (.tup [.c (.d (.sl ((spubV seed h).map bD))), .c (.d (.int .i64 (sckE seed h)))]) := den_ro2 (npub_f G hF hG seed h)
/-! ### Heads -/
abbrev hedD (h n : Int) : D := .agg [.int .i64 h, .int .i64 n]
def sf_hnm : SFn := ⟨1, 7,
  .seq (.reg [⟨(some 1), .box .roBox (.t 0), none⟩,
    ⟨(some 2), .mv (.k (.c .nil)), none⟩])
  (.seq (.reg [⟨(some 3), .fieldAddr 1 (.t 1), none⟩,
    ⟨(some 4), .load .sc (.t 3), none⟩,
    ⟨(some 5), .conv .u64 (.t 4), none⟩,
    ⟨(some 6), .call 75 [(.t 5), (.k (.c (.d (.int .i64 4))))] (some (0, 1)), none⟩,
    ⟨(some 2), .mv (.t 6), none⟩])
  (.ret)),
  [(2, none)]⟩
theorem cf_hnm : compFn Tryd.prog { own := [6], comp := [], frz := [], nils := [] } Tryd.f96 = some sf_hnm := by kernel_rfl
theorem hnm_f (G : Glob) (h : Int) (n : Nat) (hn : n ≤ 9223372036854775807) : Den Tryd.prog G 96 [hedD h (n : Int)] (.w (.c (.fr 1 ((putL n 4).map bD)))) := by
  refine den_walk Tryd.func96 cf_hnm rfl rfl ?_
  have w1 : IntKind.u64.wrap (n : Int) = (n : Int) := by rw [IntKind.wrap_u64]; omega
  simp only [sf_hnm, putAll, wx, wy, wz, stV, seval, IntWalk.iteOmega, IntWalk.toNatUp, reduceCtorEq, w1]
  refine st_call (put_in G n 4 (by decide)) rfl (.inl rfl) ?_
  simp only [wx, wy, wz, stV, seval, IntWalk.iteOmega, IntWalk.toNatUp, reduceCtorEq]
  exact ret_f1 (by simp only [wx, wy, wz, stV, seval, IntWalk.iteOmega, IntWalk.toNatUp, reduceCtorEq, putL_length])
theorem hnm_c (G : Glob) (h : Int) (n : Nat) (hn : n ≤ 9223372036854775807) : Den Tryd.prog G 96 [hedD h (n : Int)] (.w (.c (.d (.sl ((putL n 4).map bD))))) := den_ro (hnm_f G h n hn)
def sf_hfs : SFn := ⟨1, 11,
  .seq (.reg [⟨(some 1), .box .roBox (.t 0), none⟩,
    ⟨(some 2), .mv (.k (.c .nil)), none⟩])
  (.seq (.reg [⟨(some 3), .fieldAddr 0 (.t 1), none⟩,
    ⟨(some 4), .load .sc (.t 3), none⟩,
    ⟨(some 5), .conv .u64 (.t 4), none⟩,
    ⟨(some 6), .call 75 [(.t 5), (.k (.c (.d (.int .i64 1))))] none, none⟩,
    ⟨(some 7), .load (.ag 2) (.t 1), none⟩,
    ⟨(some 8), .call 96 [(.t 7)] none, none⟩,
    ⟨(some 9), .bldSl false 2 1 (.sl []) [(0, (.t 6)), (1, (.t 8))], none⟩,
    ⟨(some 10), .call 43 [(.t 9)] (some (0, 1)), none⟩,
    ⟨(some 2), .mv (.t 10), none⟩])
  (.ret)),
  [(2, none)]⟩
theorem cf_hfs : compFn Tryd.prog { own := [10], comp := [], frz := [], nils := [] } Tryd.f79 = some sf_hfs := by kernel_rfl
theorem hfs_f (G : Glob) (h n : Nat) (hh : h ≤ 6) (hn : n ≤ 9223372036854775807) : Den Tryd.prog G 79 [hedD (h : Int) (n : Int)] (.w (.c (.fr 1 (([UInt8.ofNat h] ++ putL n 4).map bD)))) := by
  refine den_walk Tryd.func79 cf_hfs rfl rfl ?_
  have w1 : IntKind.u64.wrap (h : Int) = (h : Int) := by rw [IntKind.wrap_u64]; omega
  have hp := put_in G h 1 (by decide)
  have hj := join_c G [putL h 1, putL n 4] (by simp) (by simp [putL_length])
  have hf : [putL h 1, putL n 4].flatten = [UInt8.ofNat h] ++ putL n 4 := by rw [putL_1]; simp
  rw [hf] at hj
  have hl : ([UInt8.ofNat h] ++ putL n 4).length = 5 := by rw [List.length_append, putL_length]; rfl
  generalize [UInt8.ofNat h] ++ putL n 4 = z at *
  simp only [sf_hfs, putAll, wx, wy, wz, stV, seval, IntWalk.iteOmega, IntWalk.toNatUp, reduceCtorEq, w1]
  refine st_call (hp) rfl (.inl rfl) ?_
  simp only [wx, wy, wz, stV, seval, IntWalk.iteOmega, IntWalk.toNatUp, reduceCtorEq]
  refine st_call (hnm_c G (h : Int) n hn) rfl (.inl rfl) ?_
  simp only [wx, wy, wz, stV, seval, IntWalk.iteOmega, IntWalk.toNatUp, reduceCtorEq]
  refine st_call (hj) rfl (.inl rfl) ?_
  simp only [wx, wy, wz, stV, seval, IntWalk.iteOmega, IntWalk.toNatUp, reduceCtorEq]
  exact ret_f1 (by simp only [wx, wy, wz, stV, seval, IntWalk.iteOmega, IntWalk.toNatUp, reduceCtorEq, hl])
theorem hfs_c (G : Glob) (h n : Nat) (hh : h ≤ 6) (hn : n ≤ 9223372036854775807) : Den Tryd.prog G 79 [hedD (h : Int) (n : Int)] (.w (.c (.d (.sl (([UInt8.ofNat h] ++ putL n 4).map bD))))) := den_ro (hfs_f G h n hh hn)
def sf_hdg : SFn := ⟨3, 14,
  .seq (.reg [⟨(some 3), .box .roBox (.t 0), none⟩,
    ⟨(some 6), .mv (.k (.c .nil)), none⟩])
  (.seq (.reg [⟨(some 7), .mv (.t 1), none⟩,
    ⟨(some 8), .load (.ag 2) (.t 3), none⟩,
    ⟨(some 9), .call 96 [(.t 8)] none, none⟩,
    ⟨(some 10), .mv (.t 2), none⟩,
    ⟨(some 11), .bldSl false 3 1 (.sl []) [(0, (.t 7)), (1, (.t 9)), (2, (.t 10))], none⟩,
    ⟨(some 12), .call 43 [(.t 11)] none, none⟩,
    ⟨(some 13), .call 95 [(.t 12)] (some (0, 1)), none⟩,
    ⟨(some 6), .mv (.t 13), none⟩])
  (.ret)),
  [(6, none)]⟩
theorem cf_hdg : compFn Tryd.prog { own := [13], comp := [], frz := [], nils := [] } Tryd.f57 = some sf_hdg := by kernel_rfl
theorem hdg_f (G : Glob) (hF : G.at 0 = some (.ra (firstK.map wD))) (hG : G.at 1 = some (.ra (constK.map wD))) (h : Int) (n : Nat) (pub msg : List UInt8) (hn : n ≤ 9223372036854775807) (hp : pub.length ≤ 1000000000) (hm : msg.length ≤ 1000000000) : Den Tryd.prog G 57 [hedD h (n : Int), .sl (pub.map bD), .sl (msg.map bD)] (.w (.c (.fr 1 ((sdig pub n msg).map bD)))) := by
  refine den_walk Tryd.func57 cf_hdg rfl rfl ?_
  have hj := join_c G [pub, putL n 4, msg] (by simp) (by simp [putL_length]; omega)
  have hf : [pub, putL n 4, msg].flatten = pub ++ putL n 4 ++ msg := by simp
  rw [hf] at hj
  have hs := short_c G hF hG (pub ++ putL n 4 ++ msg) (by simp [putL_length]; omega)
  have hd : shortK (pub ++ putL n 4 ++ msg) = sdig pub n msg := rfl
  rw [hd] at hs
  have hl := sdig_len pub n msg
  generalize sdig pub n msg = y at *
  generalize pub ++ putL n 4 ++ msg = z at *
  simp only [sf_hdg, putAll, wx, wy, wz, stV, seval, IntWalk.iteOmega, IntWalk.toNatUp, reduceCtorEq]
  refine st_call (hnm_c G h n hn) rfl (.inl rfl) ?_
  simp only [wx, wy, wz, stV, seval, IntWalk.iteOmega, IntWalk.toNatUp, reduceCtorEq]
  refine st_call (hj) rfl (.inl rfl) ?_
  simp only [wx, wy, wz, stV, seval, IntWalk.iteOmega, IntWalk.toNatUp, reduceCtorEq]
  refine st_call (hs) rfl (.inl rfl) ?_
  simp only [wx, wy, wz, stV, seval, IntWalk.iteOmega, IntWalk.toNatUp, reduceCtorEq]
  exact ret_f1 (by simp only [wx, wy, wz, stV, seval, IntWalk.iteOmega, IntWalk.toNatUp, reduceCtorEq, hl])
theorem hdg_c (G : Glob) (hF : G.at 0 = some (.ra (firstK.map wD))) (hG : G.at 1 = some (.ra (constK.map wD))) (h : Int) (n : Nat) (pub msg : List UInt8) (hn : n ≤ 9223372036854775807) (hp : pub.length ≤ 1000000000) (hm : msg.length ≤ 1000000000) : Den Tryd.prog G 57 [hedD h (n : Int), .sl (pub.map bD), .sl (msg.map bD)] (.w (.c (.d (.sl ((sdig pub n msg).map bD))))) := den_ro (hdg_f G hF hG h n pub msg hn hp hm)
end Go.Proofs.YtjgkchmdhicmpaaDoor
set_option linter.unusedVariables false
set_option linter.unusedSimpArgs false
namespace Go.Proofs.YtjgkchmdhicmpaaDoor
open Go.RowKit

abbrev sgtD (h n : Int) (e p : List (List UInt8)) : D := .agg [.int .i64 h, .int .i64 n, sls e, sls p]
def sf_gby : SFn := ⟨1, 14,
  .seq (.reg [⟨(some 1), .box .roBox (.t 0), none⟩,
    ⟨(some 2), .mv (.k (.c .nil)), none⟩])
  (.seq (.reg [⟨(some 3), .fieldAddr 0 (.t 1), none⟩,
    ⟨(some 4), .load (.ag 2) (.t 3), none⟩,
    ⟨(some 5), .call 79 [(.t 4)] none, none⟩,
    ⟨(some 6), .fieldAddr 2 (.t 1), none⟩,
    ⟨(some 7), .load .sc (.t 6), none⟩,
    ⟨(some 8), .call 43 [(.t 7)] none, none⟩,
    ⟨(some 9), .fieldAddr 3 (.t 1), none⟩,
    ⟨(some 10), .load .sc (.t 9), none⟩,
    ⟨(some 11), .call 43 [(.t 10)] none, none⟩,
    ⟨(some 12), .bldSl false 3 1 (.sl []) [(0, (.t 5)), (1, (.t 8)), (2, (.t 11))], none⟩,
    ⟨(some 13), .call 43 [(.t 12)] (some (0, 1)), none⟩,
    ⟨(some 2), .mv (.t 13), none⟩])
  (.ret)),
  [(2, none)]⟩
theorem cf_gby : compFn Tryd.prog { own := [13], comp := [], frz := [], nils := [] } Tryd.f45 = some sf_gby := by kernel_rfl
set_option maxHeartbeats 1600000 in
theorem gby_f (G : Glob) (h n : Nat) (e p : List (List UInt8)) (hh : h ≤ 6) (hn : n ≤ 9223372036854775807) (he : e.length ≤ 1000) (he2 : ∀ x ∈ e, x.length = 16) (hp : p.length ≤ 1000) (hp2 : ∀ x ∈ p, x.length = 32) : Den Tryd.prog G 45 [sgtD (h : Int) (n : Int) e p] (.w (.c (.fr 1 ((sgB h n e p).map bD)))) := by
  refine den_walk Tryd.func45 cf_gby rfl rfl ?_
  have l1 := cutf_len he2
  have l2 := cutf_len hp2
  have h1 := hfs_c G h n hh hn
  have hl : ([UInt8.ofNat h] ++ putL n 4).length = 5 := by rw [List.length_append, putL_length]; rfl
  have hj1 := join_c G e (by omega) (by omega)
  have hj2 := join_c G p (by omega) (by omega)
  have hj := join_c G [[UInt8.ofNat h] ++ putL n 4, e.flatten, p.flatten] (by simp) (by simp only [List.flatten_cons, List.flatten_nil, List.length_append, List.append_nil, l1, l2, putL_length, List.length_singleton]; omega)
  have hf : [[UInt8.ofNat h] ++ putL n 4, e.flatten, p.flatten].flatten = sgB h n e p := by unfold sgB; simp
  rw [hf] at hj
  have hL : (sgB h n e p).length ≤ 1000000 := by
    unfold sgB
    simp only [List.length_append, l1, l2, putL_length, List.length_singleton]; omega
  generalize sgB h n e p = z at *
  generalize [UInt8.ofNat h] ++ putL n 4 = z1 at *
  generalize e.flatten = z2 at *
  generalize p.flatten = z3 at *
  simp only [sf_gby, putAll, wx, wy, wz, stV, seval, IntWalk.iteOmega, IntWalk.toNatUp, reduceCtorEq]
  refine st_call (h1) rfl (.inl rfl) ?_
  simp only [wx, wy, wz, stV, seval, IntWalk.iteOmega, IntWalk.toNatUp, reduceCtorEq]
  refine st_call (hj1) rfl (.inl rfl) ?_
  simp only [wx, wy, wz, stV, seval, IntWalk.iteOmega, IntWalk.toNatUp, reduceCtorEq]
  refine st_call (hj2) rfl (.inl rfl) ?_
  simp only [wx, wy, wz, stV, seval, IntWalk.iteOmega, IntWalk.toNatUp, reduceCtorEq]
  refine st_call (hj) rfl (.inl rfl) ?_
  simp only [wx, wy, wz, stV, seval, IntWalk.iteOmega, IntWalk.toNatUp, reduceCtorEq]
  exact ret_f1 (by simp only [wx, wy, wz, stV, seval, IntWalk.iteOmega, IntWalk.toNatUp, reduceCtorEq])
theorem gby_c (G : Glob) (h n : Nat) (e p : List (List UInt8)) (hh : h ≤ 6) (hn : n ≤ 9223372036854775807) (he : e.length ≤ 1000) (he2 : ∀ x ∈ e, x.length = 16) (hp : p.length ≤ 1000) (hp2 : ∀ x ∈ p, x.length = 32) : Den Tryd.prog G 45 [sgtD (h : Int) (n : Int) e p] (.w (.c (.d (.sl ((sgB h n e p).map bD))))) := den_ro (gby_f G h n e p hh hn he he2 hp hp2)
theorem spath_ok {seed : List UInt8} {h n : Nat} (hh : h ≤ 6) (hn : n < 2 ^ h) : pathV (lvsM seed h) (n : Int) = pathM (lvsM seed h) n ∧ pathE (lvsM seed h) (n : Int) = 0 := by
  have h64 := pow6 hh
  have hl := lvsM_len seed h
  have hE : pathE (lvsM seed h) (n : Int) = 0 := by
    unfold pathE
    rw [if_neg (by omega), if_neg (by omega)]
  exact ⟨if_pos hE, hE⟩
theorem ssig_ok {seed d : List UInt8} {n : Nat} (hs : seed.length = 32) (hn : n ≤ 2147483647) (hd : d.length = 16) : sigV seed (n : Int) d = sigM seed n d ∧ sigE seed (n : Int) d = 0 := by
  have hk : chkE seed (n : Int) = 0 := by unfold chkE; rw [if_neg (by omega), if_neg (by omega)]
  exact ⟨(sigE_ok hk hd).2, (sigE_ok hk hd).1⟩
def sf_nsgd : SFn := ⟨2, 51,
  .seq (.reg [⟨(some 2), .box .roBox (.t 0), none⟩,
    ⟨(some 4), .alloc [(.d (.int .i64 0)), (.d (.int .i64 0)), .nil, .nil], none⟩])
  (.seq (.reg [⟨(some 13), .fieldAddr 1 (.t 2), none⟩,
    ⟨(some 14), .load .sc (.t 13), none⟩,
    ⟨(some 15), .fieldAddr 2 (.t 2), none⟩,
    ⟨(some 16), .load .sc (.t 15), none⟩,
    ⟨(some 17), .build [(.d (.int .i64 0)), (.d (.int .i64 0))] [(0, 1, (.t 14)), (1, 1, (.t 16))], none⟩,
    ⟨(some 5), .alloc [(.d (.int .i64 0)), (.d (.int .i64 0))], none⟩,
    ⟨none, .store (.ag 2) (.t 5) (.t 17), none⟩])
  (.seq (.reg [⟨(some 18), .fieldAddr 0 (.t 2), none⟩,
    ⟨(some 19), .load .sc (.t 18), none⟩,
    ⟨(some 20), .fieldAddr 1 (.t 2), none⟩,
    ⟨(some 21), .load .sc (.t 20), none⟩,
    ⟨(some 22), .call 60 [(.t 19), (.t 21)] none, none⟩,
    ⟨(some 6), .mv (.t 22), none⟩])
  (.seq (.reg [⟨(some 24), .mv (.t 6), none⟩,
    ⟨(some 25), .call 30 [(.t 24)] none, none⟩,
    ⟨(some 23), .mv (.t 25), none⟩,
    ⟨(some 26), .extract (.t 23) 0, none⟩,
    ⟨(some 27), .extract (.t 23) 1, none⟩,
    ⟨(some 7), .mv (.t 26), none⟩,
    ⟨(some 8), .mv (.t 27), none⟩])
  (.seq (.reg [⟨(some 29), .mv (.t 6), none⟩,
    ⟨(some 30), .fieldAddr 2 (.t 2), none⟩,
    ⟨(some 31), .load .sc (.t 30), none⟩,
    ⟨(some 32), .call 31 [(.t 29), (.t 31)] none, none⟩,
    ⟨(some 28), .mv (.t 32), none⟩,
    ⟨(some 33), .extract (.t 28) 0, none⟩,
    ⟨(some 34), .extract (.t 28) 1, none⟩,
    ⟨(some 9), .mv (.t 33), none⟩,
    ⟨(some 10), .mv (.t 34), none⟩])
  (.seq (.reg [⟨(some 36), .fieldAddr 0 (.t 2), none⟩,
    ⟨(some 37), .load .sc (.t 36), none⟩,
    ⟨(some 38), .fieldAddr 2 (.t 2), none⟩,
    ⟨(some 39), .load .sc (.t 38), none⟩,
    ⟨(some 40), .load (.ag 2) (.t 5), none⟩,
    ⟨(some 41), .mv (.t 7), none⟩,
    ⟨(some 42), .mv (.t 1), none⟩,
    ⟨(some 43), .call 57 [(.t 40), (.t 41), (.t 42)] none, none⟩,
    ⟨(some 44), .call 78 [(.t 37), (.t 39), (.t 43)] none, none⟩,
    ⟨(some 35), .mv (.t 44), none⟩,
    ⟨(some 45), .extract (.t 35) 0, none⟩,
    ⟨(some 46), .extract (.t 35) 1, none⟩,
    ⟨(some 11), .mv (.t 45), none⟩,
    ⟨(some 12), .mv (.t 46), none⟩])
  (.seq (.reg [⟨(some 47), .load (.ag 2) (.t 5), none⟩,
    ⟨(some 48), .mv (.t 11), none⟩,
    ⟨(some 49), .mv (.t 9), none⟩,
    ⟨(some 50), .build [(.d (.int .i64 0)), (.d (.int .i64 0)), .nil, .nil] [(0, 2, (.t 47)), (2, 1, (.t 48)), (3, 1, (.t 49))], none⟩,
    ⟨none, .store (.ag 4) (.t 4) (.t 50), none⟩])
  (.ret))))))),
  [(4, (some (.ag 4)))]⟩
theorem cf_nsgd : compFn Tryd.prog { own := [], comp := [], frz := [], nils := [] } Tryd.f44 = some sf_nsgd := by kernel_rfl
set_option maxHeartbeats 1600000 in
theorem nsgd_c (G : Glob) (hF : G.at 0 = some (.ra (firstK.map wD))) (hG : G.at 1 = some (.ra (constK.map wD))) (seed : List UInt8) (h n : Nat) (msg : List UInt8) (hs : seed.length = 32) (hh : h ≤ 6) (hn : n < 2 ^ h) (hm : msg.length ≤ 65535) : Den Tryd.prog G 44 [keyD seed (h : Int) (n : Int), .sl (msg.map bD)] (.w (.c (.d (sgtD (h : Int) (n : Int) (sigM seed n (sdig (rootM (lvsM seed h)) n msg)) (pathM (lvsM seed h) n))))) := by
  refine den_walk Tryd.func44 cf_nsgd rfl rfl ?_
  have h64 := pow6 hh
  have h1 := nlvs_c G hF hG seed h hs hh
  have h2 := root_c G hF hG (lvsM seed h) (lvs_big hh).1 (lvs_big hh).2
  rw [(srtV_ok hh).1, (srtV_ok hh).2] at h2
  have h3 := path_c G hF hG (lvsM seed h) (n : Int) (lvs_big hh).1 (lvs_big hh).2
  rw [(spath_ok hh hn).1, (spath_ok hh hn).2] at h3
  have hr := root_32 (lvsM seed h)
  have h4 := hdg_c G hF hG (h : Int) n (rootM (lvsM seed h)) msg (by omega) (by omega) (by omega)
  have hd := sdig_len (rootM (lvsM seed h)) n msg
  have h5 := sgn_c G hF hG seed (n : Int) (sdig (rootM (lvsM seed h)) n msg) (by omega)
  rw [(ssig_ok hs (by omega) hd).1, (ssig_ok hs (by omega) hd).2] at h5
  generalize sigM seed n (sdig (rootM (lvsM seed h)) n msg) = e at *
  generalize sdig (rootM (lvsM seed h)) n msg = d at *
  generalize pathM (lvsM seed h) n = p at *
  generalize rootM (lvsM seed h) = r at *
  generalize lvsM seed h = l at *
  simp only [sf_nsgd, putAll, wx, wy, wz, stV, seval, IntWalk.iteOmega, IntWalk.toNatUp, reduceCtorEq]
  refine st_call (h1) rfl (.inl rfl) ?_
  simp only [wx, wy, wz, stV, seval, IntWalk.iteOmega, IntWalk.toNatUp, reduceCtorEq]
  refine st_call (h2) rfl (.inl rfl) ?_
  simp only [wx, wy, wz, stV, seval, IntWalk.iteOmega, IntWalk.toNatUp, reduceCtorEq]
  refine st_call (h3) rfl (.inl rfl) ?_
  simp only [wx, wy, wz, stV, seval, IntWalk.iteOmega, IntWalk.toNatUp, reduceCtorEq]
  refine st_call (h4) rfl (.inl rfl) ?_
  simp only [wx, wy, wz, stV, seval, IntWalk.iteOmega, IntWalk.toNatUp, reduceCtorEq]
  refine st_call (h5) rfl (.inl rfl) ?_
  simp only [wx, wy, wz, stV, seval, IntWalk.iteOmega, IntWalk.toNatUp, reduceCtorEq]
  exact ret_d1 (by simp only [wx, wy, wz, stV, seval, IntWalk.iteOmega, IntWalk.toNatUp, reduceCtorEq])
def sgS (seed : List UInt8) (h n : Int) (msg : List UInt8) : D := if sgE seed h n msg = 0 then keyD seed h (n + 1) else keyD [] 0 0
def sgV' (seed : List UInt8) (h n : Int) (msg : List UInt8) : List UInt8 := if sgE seed h n msg = 0 then sgM seed h.toNat n.toNat msg else []
def sf_nsgn : SFn := ⟨2, 41,
  .seq (.reg [⟨(some 2), .box .roBox (.t 0), none⟩,
    ⟨(some 4), .alloc [.nil, (.d (.int .i64 0)), (.d (.int .i64 0))], none⟩,
    ⟨(some 5), .mv (.k (.c .nil)), none⟩,
    ⟨(some 6), .mv (.k (.c (.d (.int .i64 0)))), none⟩])
  (.seq (.reg [⟨(some 11), .load (.ag 3) (.t 2), none⟩,
    ⟨(some 12), .call 14 [(.t 11)] none, none⟩,
    ⟨(some 10), .mv (.t 12), none⟩,
    ⟨(some 13), .extract (.t 10) 0, none⟩,
    ⟨(some 14), .extract (.t 10) 1, none⟩,
    ⟨(some 7), .mv (.t 13), none⟩,
    ⟨(some 8), .mv (.t 14), none⟩])
  (.seq (.seq (.reg [⟨(some 15), .mv (.t 8), none⟩,
    ⟨(some 16), .bin .neq (.t 15) (.k (.c (.d (.int .i64 0)))), none⟩])
  (.cond (.t 16) (.seq (.reg [⟨(some 17), .build [.nil, (.d (.int .i64 0)), (.d (.int .i64 0))] [], none⟩,
     ⟨(some 18), .mv (.t 8), none⟩,
     ⟨none, .store (.ag 3) (.t 4) (.t 17), none⟩,
     ⟨(some 5), .mv (.k (.c .nil)), none⟩,
     ⟨(some 6), .mv (.t 18), none⟩])
   (.ret))
   (.skip)))
  (.seq (.seq (.reg [⟨(some 19), .mv (.t 7), none⟩,
    ⟨(some 20), .bin .eql (.t 19) (.k (.c (.d (.int .i64 0)))), none⟩])
  (.cond (.t 20) (.seq (.reg [⟨(some 21), .build [.nil, (.d (.int .i64 0)), (.d (.int .i64 0))] [], none⟩,
     ⟨none, .store (.ag 3) (.t 4) (.t 21), none⟩,
     ⟨(some 5), .mv (.k (.c .nil)), none⟩,
     ⟨(some 6), .mv (.k (.c (.d (.int .i64 7)))), none⟩])
   (.ret))
   (.skip)))
  (.seq (.seq (.reg [⟨(some 22), .mv (.t 1), none⟩,
    ⟨(some 23), .len (.t 22), none⟩,
    ⟨(some 24), .bin .gtr (.t 23) (.k (.c (.d (.int .i64 65535)))), none⟩])
  (.cond (.t 24) (.seq (.reg [⟨(some 25), .build [.nil, (.d (.int .i64 0)), (.d (.int .i64 0))] [], none⟩,
     ⟨none, .store (.ag 3) (.t 4) (.t 25), none⟩,
     ⟨(some 5), .mv (.k (.c .nil)), none⟩,
     ⟨(some 6), .mv (.k (.c (.d (.int .i64 2)))), none⟩])
   (.ret))
   (.skip)))
  (.seq (.reg [⟨(some 26), .fieldAddr 0 (.t 2), none⟩,
    ⟨(some 27), .load .sc (.t 26), none⟩,
    ⟨(some 28), .bldSl false 1 1 (.sl []) [(0, (.t 27))], none⟩,
    ⟨(some 29), .call 43 [(.t 28)] none, none⟩,
    ⟨(some 30), .fieldAddr 1 (.t 2), none⟩,
    ⟨(some 31), .load .sc (.t 30), none⟩,
    ⟨(some 32), .fieldAddr 2 (.t 2), none⟩,
    ⟨(some 33), .load .sc (.t 32), none⟩,
    ⟨(some 34), .bin .add (.t 33) (.k (.c (.d (.int .i64 1)))), none⟩,
    ⟨(some 35), .build [.nil, (.d (.int .i64 0)), (.d (.int .i64 0))] [(0, 1, (.t 29)), (1, 1, (.t 31)), (2, 1, (.t 34))], none⟩,
    ⟨(some 9), .alloc [.nil, (.d (.int .i64 0)), (.d (.int .i64 0))], none⟩,
    ⟨none, .store (.ag 3) (.t 9) (.t 35), none⟩])
  (.seq (.reg [⟨(some 36), .load (.ag 3) (.t 9), none⟩,
    ⟨(some 37), .load (.ag 3) (.t 2), none⟩,
    ⟨(some 38), .mv (.t 1), none⟩,
    ⟨(some 39), .call 44 [(.t 37), (.t 38)] none, none⟩,
    ⟨(some 40), .call 45 [(.t 39)] none, none⟩,
    ⟨none, .store (.ag 3) (.t 4) (.t 36), none⟩,
    ⟨(some 5), .mv (.t 40), none⟩,
    ⟨(some 6), .mv (.k (.c (.d (.int .i64 0)))), none⟩])
  (.ret))))))),
  [(4, (some (.ag 3))), (5, none), (6, none)]⟩
theorem cf_nsgn : compFn Tryd.prog { own := [], comp := [], frz := [], nils := [] } Tryd.f12 = some sf_nsgn := by kernel_rfl
set_option maxHeartbeats 1600000 in
theorem nsgn_c (G : Glob) (hF : G.at 0 = some (.ra (firstK.map wD))) (hG : G.at 1 = some (.ra (constK.map wD))) (seed : List UInt8) (h n : Int) (msg : List UInt8) (hm0 : msg.length ≤ 9223372036854775807) : Den Tryd.prog G 12 [keyD seed h n, .sl (msg.map bD)] (.tup [.c (.d (sgS seed h n msg)), .c (.d (.sl ((sgV' seed h n msg).map bD))), .c (.d (.int .i64 (sgE seed h n msg)))]) := by
  refine den_walk Tryd.func12 cf_nsgn rfl rfl ?_
  have hk := nlft_c G seed h n
  unfold sleftV sleftE at hk
  unfold sgS sgV'
  cases e : svalB seed h n
  · have hE : sgE seed h n msg = 3 := by unfold sgE; rw [if_neg (by rw [e]; decide)]
    rw [hE, if_neg (by decide), if_neg (by decide)]
    rw [e, if_neg (by decide), if_neg (by decide)] at hk
    simp only [sf_nsgn, putAll, wx, wy, wz, stV, seval, IntWalk.iteOmega, IntWalk.toNatUp, reduceCtorEq]
    refine st_call (hk) rfl (.inl rfl) ?_
    simp only [wx, wy, wz, stV, seval, IntWalk.iteOmega, IntWalk.toNatUp, reduceCtorEq]
    exact ret_d3 (by simp only [wx, wy, wz, stV, seval, IntWalk.iteOmega, IntWalk.toNatUp, reduceCtorEq] <;> rfl) (by simp only [wx, wy, wz, stV, seval, IntWalk.iteOmega, IntWalk.toNatUp, reduceCtorEq] <;> rfl) (by simp only [wx, wy, wz, stV, seval, IntWalk.iteOmega, IntWalk.toNatUp, reduceCtorEq])
  · obtain ⟨k1, k2, k3, k4, k5⟩ := sval_ok e
    rw [e, if_pos rfl, if_pos rfl] at hk
    obtain ⟨m, rfl⟩ := Int.eq_ofNat_of_zero_le k2
    obtain ⟨i, rfl⟩ := Int.eq_ofNat_of_zero_le k4
    have et : ((m : Int).toNat) = m := rfl
    have ei : ((i : Int).toNat) = i := rfl
    rw [et] at k5 hk
    have h64 := pow6 (h := m) (by omega)
    by_cases h1 : i = 2 ^ m
    · have hE : sgE seed (m : Int) (i : Int) msg = 7 := by unfold sgE; rw [if_pos e, et, if_pos (by omega)]
      rw [hE, if_neg (by decide), if_neg (by decide)]
      have e0 : ((2 ^ m : Nat) : Int) - (i : Int) = 0 := by omega
      rw [e0] at hk
      simp only [sf_nsgn, putAll, wx, wy, wz, stV, seval, IntWalk.iteOmega, IntWalk.toNatUp, reduceCtorEq]
      refine st_call (hk) rfl (.inl rfl) ?_
      simp only [wx, wy, wz, stV, seval, IntWalk.iteOmega, IntWalk.toNatUp, reduceCtorEq]
      exact ret_d3 (by simp only [wx, wy, wz, stV, seval, IntWalk.iteOmega, IntWalk.toNatUp, reduceCtorEq] <;> rfl) (by simp only [wx, wy, wz, stV, seval, IntWalk.iteOmega, IntWalk.toNatUp, reduceCtorEq] <;> rfl) (by simp only [wx, wy, wz, stV, seval, IntWalk.iteOmega, IntWalk.toNatUp, reduceCtorEq])
    · by_cases h2 : 65535 < msg.length
      · have hE : sgE seed (m : Int) (i : Int) msg = 2 := by unfold sgE; rw [if_pos e, et, if_neg (by omega), if_pos h2]
        rw [hE, if_neg (by decide), if_neg (by decide)]
        generalize 2 ^ m = N at *
        simp only [sf_nsgn, putAll, wx, wy, wz, stV, seval, IntWalk.iteOmega, IntWalk.toNatUp, reduceCtorEq]
        refine st_call (hk) rfl (.inl rfl) ?_
        simp only [wx, wy, wz, stV, seval, IntWalk.iteOmega, IntWalk.toNatUp, reduceCtorEq]
        exact ret_d3 (by simp only [wx, wy, wz, stV, seval, IntWalk.iteOmega, IntWalk.toNatUp, reduceCtorEq] <;> rfl) (by simp only [wx, wy, wz, stV, seval, IntWalk.iteOmega, IntWalk.toNatUp, reduceCtorEq] <;> rfl) (by simp only [wx, wy, wz, stV, seval, IntWalk.iteOmega, IntWalk.toNatUp, reduceCtorEq])
      · have hE : sgE seed (m : Int) (i : Int) msg = 0 := by unfold sgE; rw [if_pos e, et, if_neg (by omega), if_neg h2]
        rw [hE, if_pos rfl, if_pos rfl, et, ei]
        have hj := join_c G [seed] (by simp) (by simp; omega)
        have hf : [seed].flatten = seed := by simp
        rw [hf] at hj
        have h5 := nsgd_c G hF hG seed m i msg k1 (by omega) (by omega) (by omega)
        have hpl := spath_len seed (h := m) (n := i) (by omega)
        have h6 := gby_f G m i (sigM seed i (sdig (rootM (lvsM seed m)) i msg)) (pathM (lvsM seed m) i) (by omega) (by omega) (by unfold sigM; rw [sigN_len]; decide) sig_mem (by omega) (path_32 _ _ _ rfl)
        have hg : sgB m i (sigM seed i (sdig (rootM (lvsM seed m)) i msg)) (pathM (lvsM seed m) i) = sgM seed m i msg := rfl
        rw [hg] at h6
        generalize sgM seed m i msg = z at *
        generalize sigM seed i (sdig (rootM (lvsM seed m)) i msg) = z1 at *
        generalize pathM (lvsM seed m) i = z2 at *
        generalize 2 ^ m = N at *
        simp only [sf_nsgn, putAll, wx, wy, wz, stV, seval, IntWalk.iteOmega, IntWalk.toNatUp, reduceCtorEq]
        refine st_call (hk) rfl (.inl rfl) ?_
        simp only [wx, wy, wz, stV, seval, IntWalk.iteOmega, IntWalk.toNatUp, reduceCtorEq]
        refine st_call (hj) rfl (.inl rfl) ?_
        simp only [wx, wy, wz, stV, seval, IntWalk.iteOmega, IntWalk.toNatUp, reduceCtorEq]
        refine st_call (h5) rfl (.inl rfl) ?_
        simp only [wx, wy, wz, stV, seval, IntWalk.iteOmega, IntWalk.toNatUp, reduceCtorEq]
        refine st_call (h6) rfl (.inl rfl) ?_
        simp only [wx, wy, wz, stV, seval, IntWalk.iteOmega, IntWalk.toNatUp, reduceCtorEq]
        exact ret_d3 (by simp only [wx, wy, wz, stV, seval, IntWalk.iteOmega, IntWalk.toNatUp, reduceCtorEq] <;> rfl) (by simp only [wx, wy, wz, stV, seval, IntWalk.iteOmega, IntWalk.toNatUp, reduceCtorEq] <;> rfl) (by simp only [wx, wy, wz, stV, seval, IntWalk.iteOmega, IntWalk.toNatUp, reduceCtorEq])
/-! ### What the bytes of a signature say -/
theorem getN_1 {b : List UInt8} (h : 1 ≤ b.length) : getN (b.take 1) = sfH b := by
  match b, h with
  | x :: r, _ =>
    have := x.toNat_lt
    unfold getN sfH
    simp
theorem getN_4 {l : List UInt8} (h : l.length = 4) : getN l < 4294967296 := by
  match l, h with
  | [a, b, c, d], _ =>
    have := a.toNat_lt
    have := b.toNat_lt
    have := c.toNat_lt
    have := d.toNat_lt
    unfold getN
    simp only [List.foldl_cons, List.foldl_nil]
    omega
theorem sfI_lt {b : List UInt8} (h : 5 ≤ b.length) : sfI b < 4294967296 := getN_4 (by rw [List.length_take, List.length_drop]; omega)
theorem sfH_lt (b : List UInt8) : sfH b < 256 := UInt8.toNat_lt _
def sf_hof : SFn := ⟨1, 12,
  .seq (.reg [⟨(some 2), .alloc [(.d (.int .i64 0)), (.d (.int .i64 0))], none⟩])
  (.seq (.reg [⟨(some 3), .mv (.t 0), none⟩,
    ⟨(some 4), .slice 1 (.t 3) none (some (.k (.c (.d (.int .i64 1))))) none, none⟩,
    ⟨(some 5), .call 115 [(.t 4)] none, none⟩,
    ⟨(some 6), .conv .i64 (.t 5), none⟩,
    ⟨(some 7), .mv (.t 0), none⟩,
    ⟨(some 8), .slice 1 (.t 7) (some (.k (.c (.d (.int .i64 1))))) (some (.k (.c (.d (.int .i64 5))))) none, none⟩,
    ⟨(some 9), .call 115 [(.t 8)] none, none⟩,
    ⟨(some 10), .conv .i64 (.t 9), none⟩,
    ⟨(some 11), .build [(.d (.int .i64 0)), (.d (.int .i64 0))] [(0, 1, (.t 6)), (1, 1, (.t 10))], none⟩,
    ⟨none, .store (.ag 2) (.t 2) (.t 11), none⟩])
  (.ret)),
  [(2, (some (.ag 2)))]⟩
theorem cf_hof : compFn Tryd.prog { own := [], comp := [], frz := [], nils := [] } Tryd.f88 = some sf_hof := by kernel_rfl
set_option maxHeartbeats 1600000 in
theorem hof_c (G : Glob) (b : List UInt8) (h : 5 ≤ b.length) (hb : b.length ≤ 9223372036854775807) : Den Tryd.prog G 88 [.sl (b.map bD)] (.w (.c (.d (hedD (sfH b : Int) (sfI b : Int))))) := by
  refine den_walk Tryd.func88 cf_hof rfl rfl ?_
  have g1 := get_c G (b.take 1) (by rw [List.length_take]; omega)
  have g2 := get_c G ((b.drop 1).take 4) (by rw [List.length_take, List.length_drop]; omega)
  rw [getN_1 (by omega)] at g1
  have hI : getN ((b.drop 1).take 4) = sfI b := rfl
  rw [hI] at g2
  have i1 := sfI_lt h
  have i2 := sfH_lt b
  generalize sfI b = i at *
  generalize sfH b = m at *
  have c1 : (1 : Int) ≤ (b.length : Int) := by omega
  have c2 : (5 : Int) ≤ (b.length : Int) := by omega
  simp only [sf_hof, putAll, wx, wy, wz, stV, seval, IntWalk.iteOmega, IntWalk.toNatUp, reduceCtorEq]
  refine st_call (g1) rfl (.inl rfl) ?_
  simp only [wx, wy, wz, stV, seval, IntWalk.iteOmega, IntWalk.toNatUp, reduceCtorEq]
  refine st_call (g2) rfl (.inl rfl) ?_
  simp only [wx, wy, wz, stV, seval, IntWalk.iteOmega, IntWalk.toNatUp, reduceCtorEq]
  exact ret_d1 (by simp only [wx, wy, wz, stV, seval, IntWalk.iteOmega, IntWalk.toNatUp, reduceCtorEq])
def sf_hvl : SFn := ⟨1, 14,
  .seq (.reg [⟨(some 1), .box .roBox (.t 0), none⟩,
    ⟨(some 2), .mv (.k (.c (.d (.bool false)))), none⟩])
  (.seq (.reg [⟨(some 3), .fieldAddr 0 (.t 1), none⟩,
    ⟨(some 4), .load .sc (.t 3), none⟩,
    ⟨(some 5), .bin .leq (.t 4) (.k (.c (.d (.int .i64 6)))), none⟩,
    ⟨(some 6), .mv (.t 5), none⟩,
    ⟨(some 7), .fieldAddr 1 (.t 1), (some (6, true))⟩,
    ⟨(some 8), .load .sc (.t 7), (some (6, true))⟩,
    ⟨(some 9), .fieldAddr 0 (.t 1), (some (6, true))⟩,
    ⟨(some 10), .load .sc (.t 9), (some (6, true))⟩,
    ⟨(some 11), .call 52 [(.t 10)] none, (some (6, true))⟩,
    ⟨(some 12), .bin .lss (.t 8) (.t 11), (some (6, true))⟩,
    ⟨(some 13), .pick (.t 6) (.t 12) (.k (.c (.d (.bool false)))), none⟩,
    ⟨(some 2), .mv (.t 13), none⟩])
  (.ret)),
  [(2, none)]⟩
theorem cf_hvl : compFn Tryd.prog { own := [], comp := [], frz := [], nils := [] } Tryd.f89 = some sf_hvl := by kernel_rfl
theorem hvl_c (G : Glob) (h i : Nat) : Den Tryd.prog G 89 [hedD (h : Int) (i : Int)] (.w (.c (.d (.bool (decide (h ≤ 6 ∧ i < 2 ^ h)))))) := by
  refine den_walk Tryd.func89 cf_hvl rfl rfl ?_
  by_cases h1 : h ≤ 6
  · have hz := nsz_c G h h1
    have e : decide (h ≤ 6 ∧ i < 2 ^ h) = decide (i < 2 ^ h) := by simp [h1]
    rw [e]
    generalize 2 ^ h = N at *
    by_cases h2 : i < N
    · rw [decide_eq_true h2]
      simp only [sf_hvl, putAll, wx, wy, wz, stV, seval, IntWalk.iteOmega, IntWalk.toNatUp, reduceCtorEq]
      refine st_call (hz) rfl (.inl rfl) ?_
      simp only [wx, wy, wz, stV, seval, IntWalk.iteOmega, IntWalk.toNatUp, reduceCtorEq]
      exact ret_d1 (by simp only [wx, wy, wz, stV, seval, IntWalk.iteOmega, IntWalk.toNatUp, reduceCtorEq])
    · rw [decide_eq_false h2]
      simp only [sf_hvl, putAll, wx, wy, wz, stV, seval, IntWalk.iteOmega, IntWalk.toNatUp, reduceCtorEq]
      refine st_call (hz) rfl (.inl rfl) ?_
      simp only [wx, wy, wz, stV, seval, IntWalk.iteOmega, IntWalk.toNatUp, reduceCtorEq]
      exact ret_d1 (by simp only [wx, wy, wz, stV, seval, IntWalk.iteOmega, IntWalk.toNatUp, reduceCtorEq])
  · rw [decide_eq_false (fun k => h1 k.1)]
    simp only [sf_hvl, putAll, wx, wy, wz, stV, seval, IntWalk.iteOmega, IntWalk.toNatUp, reduceCtorEq]
    exact ret_d1 (by simp only [wx, wy, wz, stV, seval, IntWalk.iteOmega, IntWalk.toNatUp, reduceCtorEq])
theorem cutM_take {b : List UInt8} {n k m : Nat} (h : n * k ≤ m) : cutM (b.take m) n k = cutM b n k := by
  unfold cutM
  apply List.map_congr_left
  intro i hi
  have hi := List.mem_range.1 hi
  have h2 := Nat.mul_le_mul_left n (show i + 1 ≤ k from hi)
  rw [Nat.mul_succ] at h2
  rw [List.drop_take, List.take_take, Nat.min_eq_left (by omega)]
def sfD (b : List UInt8) : D := if sfB b = true then sgtD (sfH b : Int) (sfI b : Int) (sfE b) (sfP b) else sgtD 0 0 [] []
def sf_nrd : SFn := ⟨1, 35,
  .seq (.reg [⟨(some 2), .alloc [(.d (.int .i64 0)), (.d (.int .i64 0)), .nil, .nil], none⟩,
    ⟨(some 3), .mv (.k (.c (.d (.bool false)))), none⟩])
  (.seq (.seq (.reg [⟨(some 6), .mv (.t 0), none⟩,
    ⟨(some 7), .len (.t 6), none⟩,
    ⟨(some 8), .bin .lss (.t 7) (.k (.c (.d (.int .i64 5)))), none⟩])
  (.cond (.t 8) (.seq (.reg [⟨(some 9), .build [(.d (.int .i64 0)), (.d (.int .i64 0)), .nil, .nil] [], none⟩,
     ⟨none, .store (.ag 4) (.t 2) (.t 9), none⟩,
     ⟨(some 3), .mv (.k (.c (.d (.bool false)))), none⟩])
   (.ret))
   (.skip)))
  (.seq (.reg [⟨(some 10), .mv (.t 0), none⟩,
    ⟨(some 11), .call 88 [(.t 10)] none, none⟩,
    ⟨(some 4), .alloc [(.d (.int .i64 0)), (.d (.int .i64 0))], none⟩,
    ⟨none, .store (.ag 2) (.t 4) (.t 11), none⟩])
  (.seq (.seq (.reg [⟨(some 12), .load (.ag 2) (.t 4), none⟩,
    ⟨(some 13), .call 89 [(.t 12)] none, none⟩,
    ⟨(some 14), .un .not (.t 13), none⟩,
    ⟨(some 15), .mv (.t 14), none⟩,
    ⟨(some 16), .mv (.t 0), (some (15, false))⟩,
    ⟨(some 17), .len (.t 16), (some (15, false))⟩,
    ⟨(some 18), .fieldAddr 0 (.t 4), (some (15, false))⟩,
    ⟨(some 19), .load .sc (.t 18), (some (15, false))⟩,
    ⟨(some 20), .bin .mul (.t 19) (.k (.c (.d (.int .i64 32)))), (some (15, false))⟩,
    ⟨(some 21), .bin .add (.k (.c (.d (.int .i64 565)))) (.t 20), (some (15, false))⟩,
    ⟨(some 22), .bin .neq (.t 17) (.t 21), (some (15, false))⟩,
    ⟨(some 23), .pick (.t 15) (.k (.c (.d (.bool true)))) (.t 22), none⟩])
  (.cond (.t 23) (.seq (.reg [⟨(some 24), .build [(.d (.int .i64 0)), (.d (.int .i64 0)), .nil, .nil] [], none⟩,
     ⟨none, .store (.ag 4) (.t 2) (.t 24), none⟩,
     ⟨(some 3), .mv (.k (.c (.d (.bool false)))), none⟩])
   (.ret))
   (.skip)))
  (.seq (.reg [⟨(some 25), .mv (.t 0), none⟩,
    ⟨(some 26), .slice 1 (.t 25) (some (.k (.c (.d (.int .i64 5))))) none none, none⟩,
    ⟨(some 5), .mv (.t 26), none⟩])
  (.seq (.reg [⟨(some 27), .load (.ag 2) (.t 4), none⟩,
    ⟨(some 28), .mv (.t 5), none⟩,
    ⟨(some 29), .slice 1 (.t 28) none (some (.k (.c (.d (.int .i64 560))))) none, none⟩,
    ⟨(some 30), .call 90 [(.t 29), (.k (.c (.d (.int .i64 16))))] none, none⟩,
    ⟨(some 31), .mv (.t 5), none⟩,
    ⟨(some 32), .slice 1 (.t 31) (some (.k (.c (.d (.int .i64 560))))) none none, none⟩,
    ⟨(some 33), .call 90 [(.t 32), (.k (.c (.d (.int .i64 32))))] none, none⟩,
    ⟨(some 34), .build [(.d (.int .i64 0)), (.d (.int .i64 0)), .nil, .nil] [(0, 2, (.t 27)), (2, 1, (.t 30)), (3, 1, (.t 33))], none⟩,
    ⟨none, .store (.ag 4) (.t 2) (.t 34), none⟩,
    ⟨(some 3), .mv (.k (.c (.d (.bool true)))), none⟩])
  (.ret)))))),
  [(2, (some (.ag 4))), (3, none)]⟩
theorem cf_nrd : compFn Tryd.prog { own := [], comp := [], frz := [], nils := [] } Tryd.f54 = some sf_nrd := by kernel_rfl
set_option maxHeartbeats 3200000 in
theorem nrd_c (G : Glob) (b : List UInt8) (hb : b.length ≤ 140737488355328) : Den Tryd.prog G 54 [.sl (b.map bD)] (.tup [.c (.d (sfD b)), .c (.d (.bool (sfB b)))]) := by
  refine den_walk Tryd.func54 cf_nrd rfl rfl ?_
  unfold sfD
  by_cases h : 5 ≤ b.length
  · have h1 := hof_c G b h (by omega)
    have h2 := hvl_c G (sfH b) (sfI b)
    have i2 := sfH_lt b
    by_cases hv : sfH b ≤ 6 ∧ sfI b < 2 ^ sfH b
    · rw [decide_eq_true hv] at h2
      by_cases hl : b.length = 565 + 32 * sfH b
      · have hB : sfB b = true := decide_eq_true ⟨by omega, hv.1, hv.2, hl⟩
        rw [hB, if_pos rfl]
        have p1 := pcs_f G ((b.drop 5).take 560) 16 35 (by decide) (by decide) (by rw [List.length_take]; omega) (by rw [List.length_take, List.length_drop]; omega) (by decide)
        rw [cutM_take (by decide)] at p1
        have p2 := pcs_f G ((b.drop 5).drop 560) 32 (sfH b) (by decide) (by decide) (by simp only [List.length_drop]; omega) (by simp only [List.length_drop]; omega) (by omega)
        have hd : (b.drop 5).drop 560 = b.drop 565 := by rw [List.drop_drop]
        have eE : cutM (b.drop 5) 16 35 = sfE b := rfl
        have eP : cutM ((b.drop 5).drop 560) 32 (sfH b) = sfP b := by rw [hd]; rfl
        rw [eP] at p2
        rw [eE] at p1
        have hld : (b.drop 5).length = 560 + 32 * sfH b := by rw [List.length_drop]; omega
        have ht : (b.drop 5).take (565 + 32 * sfH b - 5) = b.drop 5 := List.take_of_length_le (by rw [List.length_drop]; omega)
        have ht2 : ((b.drop 5).drop 560).take (560 + 32 * sfH b - 560) = (b.drop 5).drop 560 := List.take_of_length_le (by simp only [List.length_drop]; omega)
        generalize sfE b = e at *
        generalize sfP b = p at *
        generalize sfI b = i at *
        generalize sfH b = m at *
        simp only [sf_nrd, putAll, wx, wy, wz, stV, seval, IntWalk.iteOmega, IntWalk.toNatUp, reduceCtorEq]
        refine st_call (h1) rfl (.inl rfl) ?_
        simp only [wx, wy, wz, stV, seval, IntWalk.iteOmega, IntWalk.toNatUp, reduceCtorEq]
        refine st_call (h2) rfl (.inl rfl) ?_
        simp only [hl, hld, ht, wx, wy, wz, stV, seval, IntWalk.iteOmega, IntWalk.toNatUp, reduceCtorEq]
        refine st_call (p1) rfl (.inl rfl) ?_
        simp only [hld, ht2, wx, wy, wz, stV, seval, IntWalk.iteOmega, IntWalk.toNatUp, reduceCtorEq]
        refine st_call (p2) rfl (.inl rfl) ?_
        simp only [wx, wy, wz, stV, seval, IntWalk.iteOmega, IntWalk.toNatUp, reduceCtorEq]
        exact ret_d2 (by simp only [wx, wy, wz, stV, seval, IntWalk.iteOmega, IntWalk.toNatUp, reduceCtorEq] <;> rfl) (by simp only [wx, wy, wz, stV, seval, IntWalk.iteOmega, IntWalk.toNatUp, reduceCtorEq])
      · have hB : sfB b = false := decide_eq_false fun k => hl k.2.2.2
        rw [hB, if_neg (by decide)]
        generalize sfI b = i at *
        generalize sfH b = m at *
        simp only [sf_nrd, putAll, wx, wy, wz, stV, seval, IntWalk.iteOmega, IntWalk.toNatUp, reduceCtorEq]
        refine st_call (h1) rfl (.inl rfl) ?_
        simp only [wx, wy, wz, stV, seval, IntWalk.iteOmega, IntWalk.toNatUp, reduceCtorEq]
        refine st_call (h2) rfl (.inl rfl) ?_
        simp only [wx, wy, wz, stV, seval, IntWalk.iteOmega, IntWalk.toNatUp, reduceCtorEq]
        exact ret_d2 (by simp only [wx, wy, wz, stV, seval, IntWalk.iteOmega, IntWalk.toNatUp, reduceCtorEq] <;> rfl) (by simp only [wx, wy, wz, stV, seval, IntWalk.iteOmega, IntWalk.toNatUp, reduceCtorEq])
    · rw [decide_eq_false hv] at h2
      have hB : sfB b = false := decide_eq_false fun k => hv ⟨k.2.1, k.2.2.1⟩
      rw [hB, if_neg (by decide)]
      generalize sfI b = i at *
      generalize sfH b = m at *
      simp only [sf_nrd, putAll, wx, wy, wz, stV, seval, IntWalk.iteOmega, IntWalk.toNatUp, reduceCtorEq]
      refine st_call (h1) rfl (.inl rfl) ?_
      simp only [wx, wy, wz, stV, seval, IntWalk.iteOmega, IntWalk.toNatUp, reduceCtorEq]
      refine st_call (h2) rfl (.inl rfl) ?_
      simp only [wx, wy, wz, stV, seval, IntWalk.iteOmega, IntWalk.toNatUp, reduceCtorEq]
      exact ret_d2 (by simp only [wx, wy, wz, stV, seval, IntWalk.iteOmega, IntWalk.toNatUp, reduceCtorEq] <;> rfl) (by simp only [wx, wy, wz, stV, seval, IntWalk.iteOmega, IntWalk.toNatUp, reduceCtorEq])
  · have hB : sfB b = false := decide_eq_false fun k => by omega
    rw [hB, if_neg (by decide)]
    simp only [sf_nrd, putAll, wx, wy, wz, stV, seval, IntWalk.iteOmega, IntWalk.toNatUp, reduceCtorEq]
    exact ret_d2 (by simp only [wx, wy, wz, stV, seval, IntWalk.iteOmega, IntWalk.toNatUp, reduceCtorEq] <;> rfl) (by simp only [wx, wy, wz, stV, seval, IntWalk.iteOmega, IntWalk.toNatUp, reduceCtorEq])
def sf_nix : SFn := ⟨1, 16,
  .seq (.reg [⟨(some 2), .mv (.k (.c (.d (.int .i64 0)))), none⟩,
    ⟨(some 3), .mv (.k (.c (.d (.int .i64 0)))), none⟩])
  (.seq (.reg [⟨(some 7), .mv (.t 0), none⟩,
    ⟨(some 8), .call 54 [(.t 7)] none, none⟩,
    ⟨(some 6), .mv (.t 8), none⟩,
    ⟨(some 9), .extract (.t 6) 0, none⟩,
    ⟨(some 10), .extract (.t 6) 1, none⟩,
    ⟨(some 4), .alloc [(.d (.int .i64 0)), (.d (.int .i64 0)), .nil, .nil], none⟩,
    ⟨none, .store (.ag 4) (.t 4) (.t 9), none⟩,
    ⟨(some 5), .mv (.t 10), none⟩])
  (.seq (.seq (.reg [⟨(some 11), .mv (.t 5), none⟩,
    ⟨(some 12), .un .not (.t 11), none⟩])
  (.cond (.t 12) (.seq (.reg [⟨(some 2), .mv (.k (.c (.d (.int .i64 0)))), none⟩,
     ⟨(some 3), .mv (.k (.c (.d (.int .i64 3)))), none⟩])
   (.ret))
   (.skip)))
  (.seq (.reg [⟨(some 13), .fieldAddr 0 (.t 4), none⟩,
    ⟨(some 14), .fieldAddr 1 (.t 13), none⟩,
    ⟨(some 15), .load .sc (.t 14), none⟩,
    ⟨(some 2), .mv (.t 15), none⟩,
    ⟨(some 3), .mv (.k (.c (.d (.int .i64 0)))), none⟩])
  (.ret)))),
  [(2, none), (3, none)]⟩
theorem cf_nix : compFn Tryd.prog { own := [], comp := [], frz := [], nils := [] } Tryd.f20 = some sf_nix := by kernel_rfl
set_option maxHeartbeats 1600000 in
theorem nix_c (G : Glob) (b : List UInt8) (hb : b.length ≤ 140737488355328) : Den Tryd.prog G 20 [.sl (b.map bD)] (.tup [.c (.d (.int .i64 (sixV b))), .c (.d (.int .i64 (sixE b)))]) := by
  refine den_walk Tryd.func20 cf_nix rfl rfl ?_
  have h1 := nrd_c G b hb
  unfold sfD at h1
  unfold sixV sixE
  cases e : sfB b
  · rw [e, if_neg (by decide)] at h1
    rw [if_neg (by decide), if_neg (by decide)]
    simp only [sf_nix, putAll, wx, wy, wz, stV, seval, IntWalk.iteOmega, IntWalk.toNatUp, reduceCtorEq]
    refine st_call (h1) rfl (.inl rfl) ?_
    simp only [wx, wy, wz, stV, seval, IntWalk.iteOmega, IntWalk.toNatUp, reduceCtorEq]
    exact ret_d2 (by simp only [wx, wy, wz, stV, seval, IntWalk.iteOmega, IntWalk.toNatUp, reduceCtorEq]) (by simp only [wx, wy, wz, stV, seval, IntWalk.iteOmega, IntWalk.toNatUp, reduceCtorEq])
  · rw [e, if_pos rfl] at h1
    rw [if_pos rfl, if_pos rfl]
    generalize sfE b = x1 at *
    generalize sfP b = x2 at *
    generalize sfI b = i at *
    generalize sfH b = m at *
    simp only [sf_nix, putAll, wx, wy, wz, stV, seval, IntWalk.iteOmega, IntWalk.toNatUp, reduceCtorEq]
    refine st_call (h1) rfl (.inl rfl) ?_
    simp only [wx, wy, wz, stV, seval, IntWalk.iteOmega, IntWalk.toNatUp, reduceCtorEq]
    exact ret_d2 (by simp only [wx, wy, wz, stV, seval, IntWalk.iteOmega, IntWalk.toNatUp, reduceCtorEq]) (by simp only [wx, wy, wz, stV, seval, IntWalk.iteOmega, IntWalk.toNatUp, reduceCtorEq])
theorem recOk {d : List UInt8} {b : List UInt8} (hd : d.length = 16) (h : 565 ≤ b.length) : recE d (sfE b) = 0 ∧ recV d (sfE b) = recM d (sfE b) := by
  have hf : formB (sfE b) = true := formB_3 (cutM_len _ _ _) (fun j hj => sfE_mem h _ (getLs_mem hj))
  have hE : recE d (sfE b) = 0 := by unfold recE; rw [if_pos (dig_ok hd).1, hf]; rfl
  exact ⟨hE, if_pos hE⟩
theorem recM_len (d : List UInt8) (s : List (List UInt8)) : (recM d s).length = 16 := shortK_len _
def sf_nvf : SFn := ⟨3, 53,
  .seq (.reg [⟨(some 6), .mv (.k (.c (.d (.bool false)))), none⟩])
  (.seq (.seq (.reg [⟨(some 11), .mv (.t 0), none⟩,
    ⟨(some 12), .len (.t 11), none⟩,
    ⟨(some 13), .bin .neq (.t 12) (.k (.c (.d (.int .i64 32)))), none⟩,
    ⟨(some 14), .mv (.t 13), none⟩,
    ⟨(some 15), .mv (.t 1), (some (14, false))⟩,
    ⟨(some 16), .len (.t 15), (some (14, false))⟩,
    ⟨(some 17), .bin .gtr (.t 16) (.k (.c (.d (.int .i64 65535)))), (some (14, false))⟩,
    ⟨(some 18), .pick (.t 14) (.k (.c (.d (.bool true)))) (.t 17), none⟩])
  (.cond (.t 18) (.seq (.reg [⟨(some 6), .mv (.k (.c (.d (.bool false)))), none⟩])
   (.ret))
   (.skip)))
  (.seq (.reg [⟨(some 20), .mv (.t 2), none⟩,
    ⟨(some 21), .call 54 [(.t 20)] none, none⟩,
    ⟨(some 19), .mv (.t 21), none⟩,
    ⟨(some 22), .extract (.t 19) 0, none⟩,
    ⟨(some 23), .extract (.t 19) 1, none⟩,
    ⟨(some 7), .alloc [(.d (.int .i64 0)), (.d (.int .i64 0)), .nil, .nil], none⟩,
    ⟨none, .store (.ag 4) (.t 7) (.t 22), none⟩,
    ⟨(some 8), .mv (.t 23), none⟩])
  (.seq (.seq (.reg [⟨(some 24), .mv (.t 8), none⟩,
    ⟨(some 25), .un .not (.t 24), none⟩])
  (.cond (.t 25) (.seq (.reg [⟨(some 6), .mv (.k (.c (.d (.bool false)))), none⟩])
   (.ret))
   (.skip)))
  (.seq (.reg [⟨(some 27), .fieldAddr 0 (.t 7), none⟩,
    ⟨(some 28), .load (.ag 2) (.t 27), none⟩,
    ⟨(some 29), .mv (.t 0), none⟩,
    ⟨(some 30), .mv (.t 1), none⟩,
    ⟨(some 31), .call 57 [(.t 28), (.t 29), (.t 30)] none, none⟩,
    ⟨(some 32), .fieldAddr 2 (.t 7), none⟩,
    ⟨(some 33), .load .sc (.t 32), none⟩,
    ⟨(some 34), .call 56 [(.t 31), (.t 33)] none, none⟩,
    ⟨(some 26), .mv (.t 34), none⟩,
    ⟨(some 35), .extract (.t 26) 0, none⟩,
    ⟨(some 36), .extract (.t 26) 1, none⟩,
    ⟨(some 9), .mv (.t 35), none⟩,
    ⟨(some 10), .mv (.t 36), none⟩])
  (.seq (.reg [⟨(some 37), .mv (.t 10), none⟩,
    ⟨(some 38), .bin .eql (.t 37) (.k (.c (.d (.int .i64 0)))), none⟩,
    ⟨(some 39), .mv (.t 38), none⟩,
    ⟨(some 40), .mv (.t 0), (some (39, true))⟩,
    ⟨(some 41), .fieldAddr 0 (.t 7), (some (39, true))⟩,
    ⟨(some 42), .fieldAddr 0 (.t 41), (some (39, true))⟩,
    ⟨(some 43), .load .sc (.t 42), (some (39, true))⟩,
    ⟨(some 44), .call 52 [(.t 43)] none, (some (39, true))⟩,
    ⟨(some 45), .fieldAddr 0 (.t 7), (some (39, true))⟩,
    ⟨(some 46), .fieldAddr 1 (.t 45), (some (39, true))⟩,
    ⟨(some 47), .load .sc (.t 46), (some (39, true))⟩,
    ⟨(some 48), .mv (.t 9), (some (39, true))⟩,
    ⟨(some 49), .fieldAddr 3 (.t 7), (some (39, true))⟩,
    ⟨(some 50), .load .sc (.t 49), (some (39, true))⟩,
    ⟨(some 51), .call 33 [(.t 40), (.t 44), (.t 47), (.t 48), (.t 50)] none, (some (39, true))⟩,
    ⟨(some 52), .pick (.t 39) (.t 51) (.k (.c (.d (.bool false)))), none⟩,
    ⟨(some 6), .mv (.t 52), none⟩])
  (.ret)))))),
  [(6, none)]⟩
theorem cf_nvf : compFn Tryd.prog { own := [], comp := [], frz := [], nils := [] } Tryd.f22 = some sf_nvf := by kernel_rfl
set_option maxHeartbeats 3200000 in
theorem nvf_c (G : Glob) (hF : G.at 0 = some (.ra (firstK.map wD))) (hG : G.at 1 = some (.ra (constK.map wD))) (pub msg b : List UInt8) (hp : pub.length ≤ 9223372036854775807) (hm : msg.length ≤ 9223372036854775807) (hb : b.length ≤ 140737488355328) : Den Tryd.prog G 22 [.sl (pub.map bD), .sl (msg.map bD), .sl (b.map bD)] (.w (.c (.d (.bool (svfB pub msg b))))) := by
  refine den_walk Tryd.func22 cf_nvf rfl rfl ?_
  have h1 := nrd_c G b hb
  unfold sfD at h1
  unfold svfB
  by_cases k1 : pub.length = 32
  · rw [decide_eq_true k1, Bool.true_and]
    by_cases k2 : msg.length ≤ 65535
    · rw [decide_eq_true k2, Bool.true_and]
      cases e : sfB b
      · rw [e, if_neg (by decide)] at h1
        rw [Bool.false_and]
        simp only [sf_nvf, putAll, wx, wy, wz, stV, seval, IntWalk.iteOmega, IntWalk.toNatUp, reduceCtorEq, k1]
        refine st_call (h1) rfl (.inl rfl) ?_
        simp only [wx, wy, wz, stV, seval, IntWalk.iteOmega, IntWalk.toNatUp, reduceCtorEq]
        exact ret_d1 (by simp only [wx, wy, wz, stV, seval, IntWalk.iteOmega, IntWalk.toNatUp, reduceCtorEq])
      · rw [e, if_pos rfl] at h1
        rw [Bool.true_and]
        obtain ⟨q1, q2, q3, q4⟩ := sfB_ok e
        have h64 := pow6 q2
        have hd := sdig_len pub (sfI b) msg
        have hh := hdg_c G hF hG (sfH b : Int) (sfI b) pub msg (by omega) (by omega) (by omega)
        have hl16 := sfE_mem q1
        have hl32 := sfP_mem q4
        have hr := rec_c G hF hG (sdig pub (sfI b) msg) (sfE b) (by omega) (by unfold sfE; rw [cutM_len]; decide) (fun x hx => by rw [hl16 x hx]; decide)
        rw [(recOk hd q1).1, (recOk hd q1).2] at hr
        have hz := nsz_c G (sfH b) q2
        have hrl := recM_len (sdig pub (sfI b) msg) (sfE b)
        have hc := chkt_c G hF hG pub ((2 ^ sfH b : Nat) : Int) (sfI b : Int) (recM (sdig pub (sfI b) msg) (sfE b)) (sfP b) (by omega) (by unfold sfP; rw [cutM_len]; omega) (fun x hx => by rw [hl32 x hx]; decide)
        generalize checkB pub ((2 ^ sfH b : Nat) : Int) (sfI b : Int) (recM (sdig pub (sfI b) msg) (sfE b)) (sfP b) = z at *
        generalize recM (sdig pub (sfI b) msg) (sfE b) = y at *
        generalize sdig pub (sfI b) msg = d at *
        generalize sfE b = x1 at *
        generalize sfP b = x2 at *
        generalize sfI b = i at *
        generalize sfH b = m at *
        generalize 2 ^ m = N at *
        simp only [sf_nvf, putAll, wx, wy, wz, stV, seval, IntWalk.iteOmega, IntWalk.toNatUp, reduceCtorEq, k1]
        refine st_call (h1) rfl (.inl rfl) ?_
        simp only [wx, wy, wz, stV, seval, IntWalk.iteOmega, IntWalk.toNatUp, reduceCtorEq]
        refine st_call (hh) rfl (.inl rfl) ?_
        simp only [wx, wy, wz, stV, seval, IntWalk.iteOmega, IntWalk.toNatUp, reduceCtorEq]
        refine st_call (hr) rfl (.inl rfl) ?_
        simp only [wx, wy, wz, stV, seval, IntWalk.iteOmega, IntWalk.toNatUp, reduceCtorEq]
        refine st_call (hz) rfl (.inl rfl) ?_
        simp only [wx, wy, wz, stV, seval, IntWalk.iteOmega, IntWalk.toNatUp, reduceCtorEq]
        refine st_call (hc) rfl (.inl rfl) ?_
        simp only [wx, wy, wz, stV, seval, IntWalk.iteOmega, IntWalk.toNatUp, reduceCtorEq]
        exact ret_d1 (by simp only [wx, wy, wz, stV, seval, IntWalk.iteOmega, IntWalk.toNatUp, reduceCtorEq])
    · rw [decide_eq_false k2, Bool.false_and]
      simp only [sf_nvf, putAll, wx, wy, wz, stV, seval, IntWalk.iteOmega, IntWalk.toNatUp, reduceCtorEq, k1]
      exact ret_d1 (by simp only [wx, wy, wz, stV, seval, IntWalk.iteOmega, IntWalk.toNatUp, reduceCtorEq])
  · rw [decide_eq_false k1, Bool.false_and]
    simp only [sf_nvf, putAll, wx, wy, wz, stV, seval, IntWalk.iteOmega, IntWalk.toNatUp, reduceCtorEq]
    exact ret_d1 (by simp only [wx, wy, wz, stV, seval, IntWalk.iteOmega, IntWalk.toNatUp, reduceCtorEq])
end Go.Proofs.YtjgkchmdhicmpaaDoor
set_option linter.unusedVariables false
set_option linter.unusedSimpArgs false
namespace Go.Proofs.YtjgkchmdhicmpaaDoor
open Go.RowKit

def sgF (seed : List UInt8) (h n : Int) (msg : List UInt8) : W := if sgE seed h n msg = 0 then .mix [.fr 1 (seed.map bD), .d (.int .i64 h), .d (.int .i64 (n + 1))] else .mix [.fr 1 [], .d (.int .i64 0), .d (.int .i64 0)]
theorem tkM (l : List UInt8) : (l.map bD).take l.length = l.map bD := List.take_of_length_le (by rw [List.length_map]; exact Nat.le_refl _)
theorem ret_key {σ : St} {p q r : Nat × Option Kd} {s1 s2 : List D} {h n e : Int} {w1 w2 : C}
    (h1 : resW σ p = some (.mix [w1, .d (.int .i64 h), .d (.int .i64 n)])) (h2 : resW σ q = some (.c w2)) (h3 : resW σ r = some (.c (.d (.int .i64 e)))) (x1 : exC σ.h w1 (.fr 1 s1)) (x2 : exC σ.h w2 (.fr 1 s2)) (hd : (w1.ids ++ w2.ids).Nodup) :
    RetOk σ [p, q, r] (.tup [.mix [.fr 1 s1, .d (.int .i64 h), .d (.int .i64 n)], .c (.fr 1 s2), .c (.d (.int .i64 e))]) := by
  refine ⟨[.mix [w1, .d (.int .i64 h), .d (.int .i64 n)], .c w2, .c (.d (.int .i64 e))], by simp [allSome, h1, h2, h3], .inl ⟨?_, ?_⟩⟩
  · simpa [W.ids, C.ids] using hd
  · exact .cons (.cons x1 (.cons rfl (.cons rfl .nil))) (.cons x2 (.cons rfl .nil))
def sf_nsgnF : SFn := ⟨2, 41,
  .seq (.reg [⟨(some 2), .box .roBox (.t 0), none⟩,
    ⟨(some 4), .alloc [.nil, (.d (.int .i64 0)), (.d (.int .i64 0))], none⟩,
    ⟨(some 5), .mv (.k (.c .nil)), none⟩,
    ⟨(some 6), .mv (.k (.c (.d (.int .i64 0)))), none⟩])
  (.seq (.reg [⟨(some 11), .load (.ag 3) (.t 2), none⟩,
    ⟨(some 12), .call 14 [(.t 11)] none, none⟩,
    ⟨(some 10), .mv (.t 12), none⟩,
    ⟨(some 13), .extract (.t 10) 0, none⟩,
    ⟨(some 14), .extract (.t 10) 1, none⟩,
    ⟨(some 7), .mv (.t 13), none⟩,
    ⟨(some 8), .mv (.t 14), none⟩])
  (.seq (.seq (.reg [⟨(some 15), .mv (.t 8), none⟩,
    ⟨(some 16), .bin .neq (.t 15) (.k (.c (.d (.int .i64 0)))), none⟩])
  (.cond (.t 16) (.seq (.reg [⟨(some 17), .build [.nil, (.d (.int .i64 0)), (.d (.int .i64 0))] [], none⟩,
     ⟨(some 18), .mv (.t 8), none⟩,
     ⟨none, .store (.ag 3) (.t 4) (.t 17), none⟩,
     ⟨(some 5), .mv (.k (.c .nil)), none⟩,
     ⟨(some 6), .mv (.t 18), none⟩])
   (.ret))
   (.skip)))
  (.seq (.seq (.reg [⟨(some 19), .mv (.t 7), none⟩,
    ⟨(some 20), .bin .eql (.t 19) (.k (.c (.d (.int .i64 0)))), none⟩])
  (.cond (.t 20) (.seq (.reg [⟨(some 21), .build [.nil, (.d (.int .i64 0)), (.d (.int .i64 0))] [], none⟩,
     ⟨none, .store (.ag 3) (.t 4) (.t 21), none⟩,
     ⟨(some 5), .mv (.k (.c .nil)), none⟩,
     ⟨(some 6), .mv (.k (.c (.d (.int .i64 7)))), none⟩])
   (.ret))
   (.skip)))
  (.seq (.seq (.reg [⟨(some 22), .mv (.t 1), none⟩,
    ⟨(some 23), .len (.t 22), none⟩,
    ⟨(some 24), .bin .gtr (.t 23) (.k (.c (.d (.int .i64 65535)))), none⟩])
  (.cond (.t 24) (.seq (.reg [⟨(some 25), .build [.nil, (.d (.int .i64 0)), (.d (.int .i64 0))] [], none⟩,
     ⟨none, .store (.ag 3) (.t 4) (.t 25), none⟩,
     ⟨(some 5), .mv (.k (.c .nil)), none⟩,
     ⟨(some 6), .mv (.k (.c (.d (.int .i64 2)))), none⟩])
   (.ret))
   (.skip)))
  (.seq (.reg [⟨(some 26), .fieldAddr 0 (.t 2), none⟩,
    ⟨(some 27), .load .sc (.t 26), none⟩,
    ⟨(some 28), .bldSl false 1 1 (.sl []) [(0, (.t 27))], none⟩,
    ⟨(some 29), .call 43 [(.t 28)] (some (0, 1)), none⟩,
    ⟨(some 30), .fieldAddr 1 (.t 2), none⟩,
    ⟨(some 31), .load .sc (.t 30), none⟩,
    ⟨(some 32), .fieldAddr 2 (.t 2), none⟩,
    ⟨(some 33), .load .sc (.t 32), none⟩,
    ⟨(some 34), .bin .add (.t 33) (.k (.c (.d (.int .i64 1)))), none⟩,
    ⟨(some 35), .build [.nil, (.d (.int .i64 0)), (.d (.int .i64 0))] [(0, 1, (.t 29)), (1, 1, (.t 31)), (2, 1, (.t 34))], none⟩,
    ⟨(some 9), .alloc [.nil, (.d (.int .i64 0)), (.d (.int .i64 0))], none⟩,
    ⟨none, .store (.ag 3) (.t 9) (.t 35), none⟩])
  (.seq (.reg [⟨(some 36), .load (.ag 3) (.t 9), none⟩,
    ⟨(some 37), .load (.ag 3) (.t 2), none⟩,
    ⟨(some 38), .mv (.t 1), none⟩,
    ⟨(some 39), .call 44 [(.t 37), (.t 38)] none, none⟩,
    ⟨(some 40), .call 45 [(.t 39)] (some (0, 1)), none⟩,
    ⟨none, .store (.ag 3) (.t 4) (.t 36), none⟩,
    ⟨(some 5), .mv (.t 40), none⟩,
    ⟨(some 6), .mv (.k (.c (.d (.int .i64 0)))), none⟩])
  (.ret))))))),
  [(4, (some (.ag 3))), (5, none), (6, none)]⟩
theorem cf_nsgnF : compFn Tryd.prog { own := [29, 40], comp := [], frz := [], nils := [] } Tryd.f12 = some sf_nsgnF := by kernel_rfl
set_option maxHeartbeats 1600000 in
theorem nsgnF_f (G : Glob) (hF : G.at 0 = some (.ra (firstK.map wD))) (hG : G.at 1 = some (.ra (constK.map wD))) (seed : List UInt8) (h n : Int) (msg : List UInt8) (hm0 : msg.length ≤ 9223372036854775807) : Den Tryd.prog G 12 [keyD seed h n, .sl (msg.map bD)] (.tup [sgF seed h n msg, .c (.fr 1 ((sgV' seed h n msg).map bD)), .c (.d (.int .i64 (sgE seed h n msg)))]) := by
  refine den_walk Tryd.func12 cf_nsgnF rfl rfl ?_
  have hk := nlft_c G seed h n
  unfold sleftV sleftE at hk
  unfold sgF sgV'
  cases e : svalB seed h n
  · have hE : sgE seed h n msg = 3 := by unfold sgE; rw [if_neg (by rw [e]; decide)]
    rw [hE, if_neg (by decide), if_neg (by decide)]
    rw [e, if_neg (by decide), if_neg (by decide)] at hk
    simp only [sf_nsgnF, putAll, wx, wy, wz, stV, seval, IntWalk.iteOmega, IntWalk.toNatUp, reduceCtorEq]
    refine st_call (hk) rfl (.inl rfl) ?_
    simp only [wx, wy, wz, stV, seval, IntWalk.iteOmega, IntWalk.toNatUp, reduceCtorEq]
    exact ret_key (w1 := .nil) (w2 := .nil) (by simp only [wx, wy, wz, stV, seval, IntWalk.iteOmega, IntWalk.toNatUp, reduceCtorEq] <;> rfl) (by simp only [wx, wy, wz, stV, seval, IntWalk.iteOmega, IntWalk.toNatUp, reduceCtorEq] <;> rfl) (by simp only [wx, wy, wz, stV, seval, IntWalk.iteOmega, IntWalk.toNatUp, reduceCtorEq]) rfl rfl (by simp [C.ids])
  · obtain ⟨k1, k2, k3, k4, k5⟩ := sval_ok e
    rw [e, if_pos rfl, if_pos rfl] at hk
    obtain ⟨m, rfl⟩ := Int.eq_ofNat_of_zero_le k2
    obtain ⟨i, rfl⟩ := Int.eq_ofNat_of_zero_le k4
    have et : ((m : Int).toNat) = m := rfl
    have ei : ((i : Int).toNat) = i := rfl
    rw [et] at k5 hk
    have h64 := pow6 (h := m) (by omega)
    by_cases h1 : i = 2 ^ m
    · have hE : sgE seed (m : Int) (i : Int) msg = 7 := by unfold sgE; rw [if_pos e, et, if_pos (by omega)]
      rw [hE, if_neg (by decide), if_neg (by decide)]
      have e0 : ((2 ^ m : Nat) : Int) - (i : Int) = 0 := by omega
      rw [e0] at hk
      simp only [sf_nsgnF, putAll, wx, wy, wz, stV, seval, IntWalk.iteOmega, IntWalk.toNatUp, reduceCtorEq]
      refine st_call (hk) rfl (.inl rfl) ?_
      simp only [wx, wy, wz, stV, seval, IntWalk.iteOmega, IntWalk.toNatUp, reduceCtorEq]
      exact ret_key (w1 := .nil) (w2 := .nil) (by simp only [wx, wy, wz, stV, seval, IntWalk.iteOmega, IntWalk.toNatUp, reduceCtorEq] <;> rfl) (by simp only [wx, wy, wz, stV, seval, IntWalk.iteOmega, IntWalk.toNatUp, reduceCtorEq] <;> rfl) (by simp only [wx, wy, wz, stV, seval, IntWalk.iteOmega, IntWalk.toNatUp, reduceCtorEq]) rfl rfl (by simp [C.ids])
    · by_cases h2 : 65535 < msg.length
      · have hE : sgE seed (m : Int) (i : Int) msg = 2 := by unfold sgE; rw [if_pos e, et, if_neg (by omega), if_pos h2]
        rw [hE, if_neg (by decide), if_neg (by decide)]
        generalize 2 ^ m = N at *
        simp only [sf_nsgnF, putAll, wx, wy, wz, stV, seval, IntWalk.iteOmega, IntWalk.toNatUp, reduceCtorEq]
        refine st_call (hk) rfl (.inl rfl) ?_
        simp only [wx, wy, wz, stV, seval, IntWalk.iteOmega, IntWalk.toNatUp, reduceCtorEq]
        exact ret_key (w1 := .nil) (w2 := .nil) (by simp only [wx, wy, wz, stV, seval, IntWalk.iteOmega, IntWalk.toNatUp, reduceCtorEq] <;> rfl) (by simp only [wx, wy, wz, stV, seval, IntWalk.iteOmega, IntWalk.toNatUp, reduceCtorEq] <;> rfl) (by simp only [wx, wy, wz, stV, seval, IntWalk.iteOmega, IntWalk.toNatUp, reduceCtorEq]) rfl rfl (by simp [C.ids])
      · have hE : sgE seed (m : Int) (i : Int) msg = 0 := by unfold sgE; rw [if_pos e, et, if_neg (by omega), if_neg h2]
        rw [hE, if_pos rfl, if_pos rfl, et, ei]
        have hj := join_c G [seed] (by simp) (by simp; omega)
        have hf : [seed].flatten = seed := by simp
        rw [hf] at hj
        have h5 := nsgd_c G hF hG seed m i msg k1 (by omega) (by omega) (by omega)
        have hpl := spath_len seed (h := m) (n := i) (by omega)
        have h6 := gby_f G m i (sigM seed i (sdig (rootM (lvsM seed m)) i msg)) (pathM (lvsM seed m) i) (by omega) (by omega) (by unfold sigM; rw [sigN_len]; decide) sig_mem (by omega) (path_32 _ _ _ rfl)
        have hg : sgB m i (sigM seed i (sdig (rootM (lvsM seed m)) i msg)) (pathM (lvsM seed m) i) = sgM seed m i msg := rfl
        rw [hg] at h6
        generalize sgM seed m i msg = z at *
        generalize sigM seed i (sdig (rootM (lvsM seed m)) i msg) = z1 at *
        generalize pathM (lvsM seed m) i = z2 at *
        generalize 2 ^ m = N at *
        simp only [sf_nsgnF, putAll, wx, wy, wz, stV, seval, IntWalk.iteOmega, IntWalk.toNatUp, reduceCtorEq]
        refine st_call (hk) rfl (.inl rfl) ?_
        simp only [wx, wy, wz, stV, seval, IntWalk.iteOmega, IntWalk.toNatUp, reduceCtorEq]
        refine st_call (hj) rfl (.inl rfl) ?_
        simp only [wx, wy, wz, stV, seval, IntWalk.iteOmega, IntWalk.toNatUp, reduceCtorEq]
        refine st_call (h5) rfl (.inl rfl) ?_
        simp only [wx, wy, wz, stV, seval, IntWalk.iteOmega, IntWalk.toNatUp, reduceCtorEq]
        refine st_call (h6) rfl (.inl rfl) ?_
        simp only [wx, wy, wz, stV, seval, IntWalk.iteOmega, IntWalk.toNatUp, reduceCtorEq]
        exact ret_key (w1 := .own 232 1 0 seed.length) (w2 := .own 320 1 0 z.length) (by simp only [wx, wy, wz, stV, seval, IntWalk.iteOmega, IntWalk.toNatUp, reduceCtorEq] <;> rfl) (by simp only [wx, wy, wz, stV, seval, IntWalk.iteOmega, IntWalk.toNatUp, reduceCtorEq] <;> rfl) (by simp only [wx, wy, wz, stV, seval, IntWalk.iteOmega, IntWalk.toNatUp, reduceCtorEq]) (by simp [exC, upd, obSl, tkM]) (by simp [exC, upd, obSl, tkM]) (by simp [C.ids])
end Go.Proofs.YtjgkchmdhicmpaaDoor
set_option linter.unusedVariables false
set_option linter.unusedSimpArgs false
namespace Go.Proofs.YtjgkchmdhicmpaaDoor
open Go.RowKit

theorem fl_sgn (seed : List UInt8) (h n : Int) (msg : List UInt8) : V.flat (.tup [sgF seed h n msg, .c (.fr 1 ((sgV' seed h n msg).map bD)), .c (.d (.int .i64 (sgE seed h n msg)))]) = true := by
  have hb : ∀ l : List UInt8, (l.map bD).all D.flat = true := fun l => by rw [List.all_map, List.all_eq_true]; intro x _; rfl
  unfold sgF
  split <;> simp only [V.flat, W.flat, C.flat, List.all_cons, List.all_nil, hb, Bool.and_true] <;> rfl
theorem z32o : List.replicate 32 (D.int .u8 0) = (repL 32 (0 : UInt8)).map bD := rfl
theorem sgE_0 {seed msg : List UInt8} {h n : Nat} (hs : seed.length = 32) (hh : h ≤ 6) (hn : n < 2 ^ h) (hm : msg.length ≤ 65535) : sgE seed (h : Int) (n : Int) msg = 0 := by
  have hv : svalB seed (h : Int) (n : Int) = true := by
    unfold svalB
    refine decide_eq_true ⟨sckE_in hs (by omega) (by omega), by omega, ?_⟩
    show (n : Int) ≤ ((2 ^ h : Nat) : Int)
    omega
  have et : ((h : Int).toNat) = h := rfl
  unfold sgE
  rw [if_pos hv, et, if_neg (by omega), if_neg (by omega)]
theorem sgE_7 {seed msg : List UInt8} {h : Nat} (hs : seed.length = 32) (hh : h ≤ 6) : sgE seed (h : Int) ((2 ^ h : Nat) : Int) msg = 7 := by
  have hv : svalB seed (h : Int) ((2 ^ h : Nat) : Int) = true := by
    unfold svalB
    exact decide_eq_true ⟨sckE_in hs (by omega) (by omega), Int.natCast_nonneg _, Int.le_refl _⟩
  have et : ((h : Int).toNat) = h := rfl
  unfold sgE
  rw [if_pos hv, et, if_pos rfl]
theorem sgn_ok {seed msg : List UInt8} {h n : Nat} (hs : seed.length = 32) (hh : h ≤ 6) (hn : n < 2 ^ h) (hm : msg.length ≤ 65535) :
    sgS seed (h : Int) (n : Int) msg = keyD seed (h : Int) ((n : Int) + 1) ∧ sgV' seed (h : Int) (n : Int) msg = sgM seed h n msg ∧ sgF seed (h : Int) (n : Int) msg = .mix [.fr 1 (seed.map bD), .d (.int .i64 (h : Int)), .d (.int .i64 ((n : Int) + 1))] := by
  have hE := sgE_0 hs hh hn hm
  exact ⟨if_pos hE, if_pos hE, if_pos hE⟩
def sf_known9 : SFn := ⟨0, 56,
  .seq (.reg [⟨(some 0), .mv (.k (.c (.d (.bool false)))), none⟩])
  (.seq (.reg [⟨(some 10), .make 1 1 (.int .u8 0) (.k (.c (.d (.int .i64 32)))) (.k (.c (.d (.int .i64 32)))), none⟩,
    ⟨(some 11), .build [.nil, (.d (.int .i64 0)), (.d (.int .i64 0))] [(0, 1, (.t 10))], none⟩,
    ⟨(some 1), .alloc [.nil, (.d (.int .i64 0)), (.d (.int .i64 0))], none⟩,
    ⟨none, .store (.ag 3) (.t 1) (.t 11), none⟩])
  (.seq (.reg [⟨(some 13), .load (.ag 3) (.t 1), none⟩,
    ⟨(some 14), .bldSl true 1 1 (.int .u8 0) [(0, (.k (.c (.d (.int .u8 97)))))], none⟩,
    ⟨(some 15), .mark (.t 14), none⟩,
    ⟨(some 16), .call 12 [(.t 13), (.t 15)] none, none⟩,
    ⟨(some 12), .mv (.t 16), none⟩,
    ⟨(some 17), .extract (.t 12) 0, none⟩,
    ⟨(some 18), .extract (.t 12) 1, none⟩,
    ⟨(some 19), .extract (.t 12) 2, none⟩,
    ⟨(some 2), .alloc [.nil, (.d (.int .i64 0)), (.d (.int .i64 0))], none⟩,
    ⟨none, .store (.ag 3) (.t 2) (.t 17), none⟩,
    ⟨(some 3), .mv (.t 18), none⟩,
    ⟨(some 4), .mv (.t 19), none⟩])
  (.seq (.reg [⟨(some 21), .load (.ag 3) (.t 2), none⟩,
    ⟨(some 22), .bldSl true 1 1 (.int .u8 0) [(0, (.k (.c (.d (.int .u8 98)))))], none⟩,
    ⟨(some 23), .mark (.t 22), none⟩,
    ⟨(some 24), .call 12 [(.t 21), (.t 23)] none, none⟩,
    ⟨(some 20), .mv (.t 24), none⟩,
    ⟨(some 25), .extract (.t 20) 0, none⟩,
    ⟨(some 26), .extract (.t 20) 1, none⟩,
    ⟨(some 27), .extract (.t 20) 2, none⟩,
    ⟨(some 5), .alloc [.nil, (.d (.int .i64 0)), (.d (.int .i64 0))], none⟩,
    ⟨none, .store (.ag 3) (.t 5) (.t 25), none⟩,
    ⟨(some 6), .mv (.t 26), none⟩,
    ⟨(some 7), .mv (.t 27), none⟩])
  (.seq (.reg [⟨(some 29), .fieldAddr 0 (.t 1), none⟩,
    ⟨(some 30), .load .sc (.t 29), none⟩,
    ⟨(some 31), .call 26 [(.t 30), (.k (.c (.d (.int .i64 0))))] none, none⟩,
    ⟨(some 28), .mv (.t 31), none⟩,
    ⟨(some 32), .extract (.t 28) 0, none⟩,
    ⟨(some 33), .extract (.t 28) 1, none⟩,
    ⟨(some 8), .mv (.t 32), none⟩,
    ⟨(some 9), .mv (.t 33), none⟩])
  (.seq (.reg [⟨(some 34), .mv (.t 4), none⟩,
    ⟨(some 35), .bin .eql (.t 34) (.k (.c (.d (.int .i64 0)))), none⟩,
    ⟨(some 36), .mv (.t 35), none⟩,
    ⟨(some 37), .mv (.t 9), (some (36, true))⟩,
    ⟨(some 38), .bin .eql (.t 37) (.k (.c (.d (.int .i64 0)))), (some (36, true))⟩,
    ⟨(some 39), .pick (.t 36) (.t 38) (.k (.c (.d (.bool false)))), none⟩,
    ⟨(some 40), .mv (.t 39), none⟩,
    ⟨(some 41), .mv (.t 7), (some (40, true))⟩,
    ⟨(some 42), .bin .eql (.t 41) (.k (.c (.d (.int .i64 7)))), (some (40, true))⟩,
    ⟨(some 43), .pick (.t 40) (.t 42) (.k (.c (.d (.bool false)))), none⟩,
    ⟨(some 44), .mv (.t 43), none⟩,
    ⟨(some 45), .mv (.t 3), (some (44, true))⟩,
    ⟨(some 46), .len (.t 45), (some (44, true))⟩,
    ⟨(some 47), .bin .eql (.t 46) (.k (.c (.d (.int .i64 565)))), (some (44, true))⟩,
    ⟨(some 48), .pick (.t 44) (.t 47) (.k (.c (.d (.bool false)))), none⟩,
    ⟨(some 49), .mv (.t 48), none⟩,
    ⟨(some 50), .mv (.t 8), (some (49, true))⟩,
    ⟨(some 51), .bldSl true 1 1 (.int .u8 0) [(0, (.k (.c (.d (.int .u8 97)))))], (some (49, true))⟩,
    ⟨(some 52), .mark (.t 51), (some (49, true))⟩,
    ⟨(some 53), .mv (.t 3), (some (49, true))⟩,
    ⟨(some 54), .call 22 [(.t 50), (.t 52), (.t 53)] none, (some (49, true))⟩,
    ⟨(some 55), .pick (.t 49) (.t 54) (.k (.c (.d (.bool false)))), none⟩,
    ⟨(some 0), .mv (.t 55), none⟩])
  (.ret)))))),
  [(0, none)]⟩
theorem cf_known9 : compFn Tryd.prog { own := [14, 22, 51], comp := [], frz := [], nils := [] } Tryd.f11 = some sf_known9 := by kernel_rfl
set_option maxHeartbeats 1600000 in
theorem known9_c (G : Glob) (hF : G.at 0 = some (.ra (firstK.map wD))) (hG : G.at 1 = some (.ra (constK.map wD))) : Den Tryd.prog G 11 [] (.w (.c (.d (.bool true)))) := by
  refine den_walk Tryd.func11 cf_known9 rfl rfl ?_
  have hz : (repL 32 (0 : UInt8)).length = 32 := repL_len _ _
  have h1 := nsgnF_f G hF hG (repL 32 0) 0 0 [97] (by decide)
  have f1 := fl_sgn (repL 32 0) 0 0 [97]
  have h2 := nsgnF_f G hF hG (repL 32 0) 0 1 [98] (by decide)
  have f2 := fl_sgn (repL 32 0) 0 1 [98]
  have hE : sgE (repL 32 0) 0 0 [97] = 0 := sgE_0 (h := 0) (n := 0) hz (by decide) (by decide) (by decide)
  have hE7 : sgE (repL 32 0) 0 1 [98] = 7 := sgE_7 (h := 0) hz (by decide)
  have k2 : sgV' (repL 32 0) 0 0 [97] = sgM (repL 32 0) 0 0 [97] := if_pos hE
  have k3 : sgF (repL 32 0) 0 0 [97] = .mix [.fr 1 ((repL 32 (0 : UInt8)).map bD), .d (.int .i64 0), .d (.int .i64 (0 + 1))] := if_pos hE
  have k4 : sgV' (repL 32 0) 0 1 [98] = [] := if_neg (by rw [hE7]; decide)
  have k5 : sgF (repL 32 0) 0 1 [98] = .mix [.fr 1 [], .d (.int .i64 0), .d (.int .i64 0)] := if_neg (by rw [hE7]; decide)
  rw [hE, k2, k3] at h1 f1
  rw [hE7, k4, k5] at h2 f2
  have hp := npub_f G hF hG (repL 32 0) 0
  have e0 : sckE (repL 32 0) 0 = 0 := sckE_in hz (by decide) (by decide)
  have eV : spubV (repL 32 0) 0 = rootM (lvsM (repL 32 0) 0) := if_pos e0
  rw [e0, eV] at hp
  have hv := sg_verifies (repL 32 0) (h := 0) (n := 0) (msg := [97]) (by decide) (by decide) (by decide)
  have hl := sgM_len (repL 32 0) (h := 0) (n := 0) (by decide) [97]
  have hr := root_32 (lvsM (repL 32 0) 0)
  have hq := nvf_c G hF hG (rootM (lvsM (repL 32 0) 0)) [97] (sgM (repL 32 0) 0 0 [97]) (by omega) (by decide) (by omega)
  rw [hv] at hq
  have t32 : (repL 32 (0 : UInt8)).take 32 = repL 32 0 := rfl
  have hl : (sgM (repL 32 0) 0 0 [97]).length = 565 := hl
  generalize sgM (repL 32 0) 0 0 [97] = b at *
  generalize rootM (lvsM (repL 32 0) 0) = r at *
  simp only [sf_known9, putAll, wx, wy, wz, stV, seval, IntWalk.iteOmega, IntWalk.toNatUp, reduceCtorEq, z32o]
  refine st_call h1 (by simp only [wx, wy, wz, stV, seval, IntWalk.iteOmega, IntWalk.toNatUp, reduceCtorEq, hz, t32] <;> rfl) (.inr f1) ?_
  simp only [wx, wy, wz, stV, seval, IntWalk.iteOmega, IntWalk.toNatUp, reduceCtorEq]
  refine st_call h2 (by simp only [wx, wy, wz, stV, seval, IntWalk.iteOmega, IntWalk.toNatUp, reduceCtorEq, hz, t32] <;> rfl) (.inr f2) ?_
  simp only [wx, wy, wz, stV, seval, IntWalk.iteOmega, IntWalk.toNatUp, reduceCtorEq]
  refine st_call hp (by simp only [wx, wy, wz, stV, seval, IntWalk.iteOmega, IntWalk.toNatUp, reduceCtorEq, hz, t32] <;> rfl) (.inr (fl_by _ _ _ _)) ?_
  simp only [wx, wy, wz, stV, seval, IntWalk.iteOmega, IntWalk.toNatUp, reduceCtorEq, hl]
  refine st_call hq (by simp only [wx, wy, wz, stV, seval, IntWalk.iteOmega, IntWalk.toNatUp, reduceCtorEq] <;> rfl) (.inr rfl) ?_
  simp only [wx, wy, wz, stV, seval, IntWalk.iteOmega, IntWalk.toNatUp, reduceCtorEq]
  exact ret_d1 (by simp only [wx, wy, wz, stV, seval, IntWalk.iteOmega, IntWalk.toNatUp, reduceCtorEq])
end Go.Proofs.YtjgkchmdhicmpaaDoor
set_option linter.unusedVariables false
set_option linter.unusedSimpArgs false
namespace Go.Proofs.YtjgkchmdhicmpaaDoor
open Go.RowKit

/-! ### Another message's signature, counted -/
noncomputable def nodN (l r : Nat) : Nat := shaN 65 (Nat.add (Nat.mul (Nat.add (Nat.mul 1 115792089237316195423570985008687907853269984665640564039457584007913129639936) l) 115792089237316195423570985008687907853269984665640564039457584007913129639936) r)
theorem nod_num {l r : List UInt8} (hl : l.length = 32) (hr : r.length = 32) : nodN (numB l) (numB r) = numB (nodeM l r) := by
  have hs := sha_num (1 :: (l ++ r)) (by simp [hl, hr])
  have e : (1 :: (l ++ r)).length = 65 := by simp [hl, hr]
  have en : (1 :: (l ++ r)) = ([1] ++ l) ++ r := by simp
  have hn : numB (1 :: (l ++ r)) = (1 * 256 ^ 32 + numB l) * 256 ^ 32 + numB r := by
    rw [en, numB_app, numB_app, hl, hr]; rfl
  rw [e, hn] at hs
  exact hs
theorem lea_num {b : List UInt8} {n : Nat} (hb : b.length = n) (hn : n < 1000000) : shaN (n + 1) (numB b) = numB (leafM b) := by
  have hs := sha_num (0 :: b) (by simp; omega)
  rw [numB_cons0, List.length_cons, hb] at hs
  exact hs
def z32 : List UInt8 := repL 32 0
def oth09 : List UInt8 := [111, 116, 104, 101, 114]
def rot09 : List UInt8 := nodeM (leafM [1]) (leafM [2])
noncomputable def chk09 : Bool :=
  seqN (shaN 17 (pubQ 0 0)) fun P => seqN (nodN (shaN 2 1) (shaN 2 2)) fun R =>
    seqN (shoN 68 (Nat.add (Nat.mul (Nat.add (Nat.mul P 4294967296) 0) 115792089237316195423570985008687907853269984665640564039457584007913129639936) R)) fun D =>
      seqN (shoN 41 (Nat.add (Nat.mul (Nat.add (Nat.mul P 4294967296) 0) 1099511627776) 478694368626)) fun E => Nat.beq (shaN 17 (recQ 0 0 D E)) P
set_option maxRecDepth 100000 in
theorem chk09_no : chk09 = false := by decide +kernel
theorem chk_use {P R D E F : Nat} (h1 : shaN 17 (pubQ 0 0) = P) (h2 : nodN (shaN 2 1) (shaN 2 2) = R) (h3 : shoN 68 (Nat.add (Nat.mul (Nat.add (Nat.mul P 4294967296) 0) 115792089237316195423570985008687907853269984665640564039457584007913129639936) R) = D)
    (h4 : shoN 41 (Nat.add (Nat.mul (Nat.add (Nat.mul P 4294967296) 0) 1099511627776) 478694368626) = E) (h5 : shaN 17 (recQ 0 0 D E) = F) : F ≠ P := by
  intro e
  have hc := chk09_no
  unfold chk09 at hc
  rw [seqN_eq, seqN_eq, seqN_eq, seqN_eq] at hc
  subst h1 h2 h3 h4 h5
  rw [e] at hc
  exact absurd (Nat.beq_refl _) (by rw [hc]; decide)
theorem z32_len : z32.length = 32 := repL_len _ _
theorem z32_num : numB z32 = 0 := by decide +kernel
theorem pub_lea (z : List UInt8) : rootM (lvsM z 0) = leafM (pubM z 0) := by
  have e : lvsM z 0 = [pubM z 0] := rfl
  rw [e]
  generalize pubM z 0 = x
  rw [root_1 rfl]; rfl
theorem rot09_eq : rootM [[1], [2]] = rot09 := by
  have hs : splitN 2 = 1 := split_eq (j := 0) (by decide) (by decide)
  rw [root_2 (by decide)]
  show nodeM (rootM (List.take (splitN 2) _)) (rootM (List.drop (splitN 2) _)) = _
  rw [hs]
  show nodeM (rootM [[1]]) (rootM [[2]]) = _
  rw [root_1 rfl, root_1 rfl]; rfl
theorem dg9_n (P R : List UInt8) (hP : P.length = 32) {n : Nat} (hR : R.length = n) (hn : n ≤ 1000) : shoN (36 + n) (Nat.add (Nat.mul (Nat.add (Nat.mul (numB P) 4294967296) 0) (256 ^ n)) (numB R)) = numB (sdig P 0 R) := by
  have hl : (P ++ putL 0 4 ++ R).length = 36 + n := by simp only [List.length_append, putL_length]; omega
  have hs := sho_num (P ++ putL 0 4 ++ R) (by omega)
  have hv : numB (P ++ putL 0 4 ++ R) = (numB P * 4294967296 + 0) * 256 ^ n + numB R := by
    rw [numB_app, numB_app, numB_put, putL_length, hR, show (256 : Nat) ^ 4 = 4294967296 by decide, Nat.zero_mod]
  rw [hl, hv] at hs
  exact hs
theorem other_gen (z rt ot : List UInt8) (hz : z.length = 32) (h0 : numB z = 0) (hr : rt.length = 32) (hrn : nodN (shaN 2 1) (shaN 2 2) = numB rt) (ho : ot.length = 5) (hon : numB ot = 478694368626) :
    leafM (recM (sdig (rootM (lvsM z 0)) 0 ot) (sigM z 0 (sdig (rootM (lvsM z 0)) 0 rt))) ≠ rootM (lvsM z 0) := by
  intro h
  have hp := lea_num (b := pubM z 0) (n := 16) (shortK_len _) (by decide)
  have hq := pub_num hz (i := 0) (by decide)
  rw [h0] at hq
  rw [← hq, ← pub_lea] at hp
  have hP32 := root_32 (lvsM z 0)
  have hD := dg9_n (rootM (lvsM z 0)) rt hP32 hr (by decide)
  have hE := dg9_n (rootM (lvsM z 0)) ot hP32 ho (by decide)
  have p32 : (256 : Nat) ^ 32 = 115792089237316195423570985008687907853269984665640564039457584007913129639936 := by decide
  have p5 : (256 : Nat) ^ 5 = 1099511627776 := by decide
  rw [p32] at hD
  rw [hon, p5] at hE
  have hn := rec_num hz (i := 0) (by decide) (sdig_len (rootM (lvsM z 0)) 0 rt) (sdig_len (rootM (lvsM z 0)) 0 ot)
  rw [h0] at hn
  have hf := lea_num (b := recM (sdig (rootM (lvsM z 0)) 0 ot) (sigM z 0 (sdig (rootM (lvsM z 0)) 0 rt))) (n := 16) (shortK_len _) (by decide)
  rw [← hn, h] at hf
  generalize rootM (lvsM z 0) = P at *
  generalize numB (sdig P 0 rt) = D at *
  generalize numB (sdig P 0 ot) = E at *
  exact chk_use hp hrn hD hE hf rfl
theorem rot_num : nodN (shaN 2 1) (shaN 2 2) = numB rot09 := by
  have l1 := lea_num (b := [1]) (n := 1) rfl (by decide)
  have l2 := lea_num (b := [2]) (n := 1) rfl (by decide)
  have hR := nod_num (sumK_len (0 :: [1])) (sumK_len (0 :: [2]))
  have v1 : numB [(1 : UInt8)] = 1 := rfl
  have v2 : numB [(2 : UInt8)] = 2 := rfl
  rw [v1] at l1
  rw [v2] at l2
  show nodN (shaN (1 + 1) 1) (shaN (1 + 1) 2) = numB (nodeM (leafM [1]) (leafM [2]))
  rw [l1, l2]
  exact hR
theorem other09 : leafM (recM (sdig (rootM (lvsM z32 0)) 0 oth09) (sigM z32 0 (sdig (rootM (lvsM z32 0)) 0 rot09))) ≠ rootM (lvsM z32 0) :=
  other_gen z32 rot09 oth09 z32_len z32_num (sumK_len _) rot_num rfl (by decide +kernel)
/-- .. so it is not accepted. -/
theorem vrf_other : svfB (rootM (lvsM z32 0)) oth09 (sgM z32 0 0 rot09) = false := by
  obtain ⟨p1, p2, p3, p4, p5⟩ := sg_parts z32 (h := 0) (n := 0) (by decide) (by decide) rot09
  have hne := other09
  unfold svfB
  rw [p1, p2, p3, p4, p5, decide_eq_true (root_32 _), decide_eq_true (show oth09.length ≤ 65535 by decide)]
  have hp : pathM (lvsM z32 0) 0 = [] := path_1 (by rw [lvsM_len]; decide) _
  rw [hp]
  generalize recM (sdig (rootM (lvsM z32 0)) 0 oth09) (sigM z32 0 (sdig (rootM (lvsM z32 0)) 0 rot09)) = y at *
  generalize rootM (lvsM z32 0) = r at *
  have hO : climbO ((2 ^ 0 : Nat) : Int) ((0 : Nat) : Int) [] = true := by
    unfold climbO
    refine decide_eq_true ⟨by decide, by decide, by decide, by decide, ?_⟩
    show 0 = depthM 1 0
    rw [depth_1 (by decide)]
  have hV : climbV ((2 ^ 0 : Nat) : Int) ((0 : Nat) : Int) y [] = leafM y := by
    unfold climbV
    rw [if_pos hO]
    exact climb_1 (by decide) _ _ _
  unfold checkB
  rw [hO, hV]
  simp [hne]
end Go.Proofs.YtjgkchmdhicmpaaDoor
set_option linter.unusedVariables false
set_option linter.unusedSimpArgs false
namespace Go.Proofs.YtjgkchmdhicmpaaDoor
open Go.RowKit

def sf_roused : SFn := ⟨0, 60,
  .seq (.reg [⟨(some 0), .mv (.k (.c (.d (.bool false)))), none⟩])
  (.seq (.reg [⟨(some 10), .bldSl false 1 1 (.int .u8 0) [(0, (.k (.c (.d (.int .u8 1)))))], none⟩,
    ⟨(some 11), .bldSl false 1 1 (.int .u8 0) [(0, (.k (.c (.d (.int .u8 2)))))], none⟩,
    ⟨(some 12), .bldSl false 2 1 (.sl []) [(0, (.t 10)), (1, (.t 11))], none⟩,
    ⟨(some 13), .call 30 [(.t 12)] none, none⟩,
    ⟨(some 9), .mv (.t 13), none⟩,
    ⟨(some 14), .extract (.t 9) 0, none⟩,
    ⟨(some 15), .extract (.t 9) 1, none⟩,
    ⟨(some 1), .mv (.t 14), none⟩,
    ⟨(some 2), .mv (.t 15), none⟩])
  (.seq (.reg [⟨(some 16), .make 1 1 (.int .u8 0) (.k (.c (.d (.int .i64 32)))) (.k (.c (.d (.int .i64 32)))), none⟩,
    ⟨(some 17), .build [.nil, (.d (.int .i64 0)), (.d (.int .i64 0))] [(0, 1, (.t 16))], none⟩,
    ⟨(some 3), .alloc [.nil, (.d (.int .i64 0)), (.d (.int .i64 0))], none⟩,
    ⟨none, .store (.ag 3) (.t 3) (.t 17), none⟩])
  (.seq (.reg [⟨(some 19), .fieldAddr 0 (.t 3), none⟩,
    ⟨(some 20), .load .sc (.t 19), none⟩,
    ⟨(some 21), .call 26 [(.t 20), (.k (.c (.d (.int .i64 0))))] none, none⟩,
    ⟨(some 18), .mv (.t 21), none⟩,
    ⟨(some 22), .extract (.t 18) 0, none⟩,
    ⟨(some 23), .extract (.t 18) 1, none⟩,
    ⟨(some 4), .mv (.t 22), none⟩,
    ⟨(some 5), .mv (.t 23), none⟩])
  (.seq (.reg [⟨(some 25), .load (.ag 3) (.t 3), none⟩,
    ⟨(some 26), .mv (.t 1), none⟩,
    ⟨(some 27), .call 12 [(.t 25), (.t 26)] none, none⟩,
    ⟨(some 24), .mv (.t 27), none⟩,
    ⟨(some 28), .extract (.t 24) 0, none⟩,
    ⟨(some 29), .extract (.t 24) 1, none⟩,
    ⟨(some 30), .extract (.t 24) 2, none⟩,
    ⟨(some 6), .alloc [.nil, (.d (.int .i64 0)), (.d (.int .i64 0))], none⟩,
    ⟨none, .store (.ag 3) (.t 6) (.t 28), none⟩,
    ⟨(some 7), .mv (.t 29), none⟩,
    ⟨(some 8), .mv (.t 30), none⟩])
  (.seq (.reg [⟨(some 31), .mv (.t 2), none⟩,
    ⟨(some 32), .bin .eql (.t 31) (.k (.c (.d (.int .i64 0)))), none⟩,
    ⟨(some 33), .mv (.t 32), none⟩,
    ⟨(some 34), .mv (.t 5), (some (33, true))⟩,
    ⟨(some 35), .bin .eql (.t 34) (.k (.c (.d (.int .i64 0)))), (some (33, true))⟩,
    ⟨(some 36), .pick (.t 33) (.t 35) (.k (.c (.d (.bool false)))), none⟩,
    ⟨(some 37), .mv (.t 36), none⟩,
    ⟨(some 38), .mv (.t 8), (some (37, true))⟩,
    ⟨(some 39), .bin .eql (.t 38) (.k (.c (.d (.int .i64 0)))), (some (37, true))⟩,
    ⟨(some 40), .pick (.t 37) (.t 39) (.k (.c (.d (.bool false)))), none⟩,
    ⟨(some 41), .mv (.t 40), none⟩,
    ⟨(some 42), .mv (.t 1), (some (41, true))⟩,
    ⟨(some 43), .len (.t 42), (some (41, true))⟩,
    ⟨(some 44), .bin .eql (.t 43) (.k (.c (.d (.int .i64 32)))), (some (41, true))⟩,
    ⟨(some 45), .pick (.t 41) (.t 44) (.k (.c (.d (.bool false)))), none⟩,
    ⟨(some 46), .mv (.t 45), none⟩,
    ⟨(some 47), .mv (.t 4), (some (46, true))⟩,
    ⟨(some 48), .mv (.t 1), (some (46, true))⟩,
    ⟨(some 49), .mv (.t 7), (some (46, true))⟩,
    ⟨(some 50), .call 22 [(.t 47), (.t 48), (.t 49)] none, (some (46, true))⟩,
    ⟨(some 51), .pick (.t 46) (.t 50) (.k (.c (.d (.bool false)))), none⟩,
    ⟨(some 52), .mv (.t 51), none⟩,
    ⟨(some 53), .mv (.t 4), (some (52, true))⟩,
    ⟨(some 54), .bldSl true 5 1 (.int .u8 0) [(0, (.k (.c (.d (.int .u8 111))))), (1, (.k (.c (.d (.int .u8 116))))), (2, (.k (.c (.d (.int .u8 104))))), (3, (.k (.c (.d (.int .u8 101))))), (4, (.k (.c (.d (.int .u8 114)))))], (some (52, true))⟩,
    ⟨(some 55), .mark (.t 54), (some (52, true))⟩,
    ⟨(some 56), .mv (.t 7), (some (52, true))⟩,
    ⟨(some 57), .call 22 [(.t 53), (.t 55), (.t 56)] none, (some (52, true))⟩,
    ⟨(some 58), .un .not (.t 57), (some (52, true))⟩,
    ⟨(some 59), .pick (.t 52) (.t 58) (.k (.c (.d (.bool false)))), none⟩,
    ⟨(some 0), .mv (.t 59), none⟩])
  (.ret)))))),
  [(0, none)]⟩
theorem cf_roused : compFn Tryd.prog { own := [54], comp := [], frz := [], nils := [] } Tryd.f35 = some sf_roused := by kernel_rfl
set_option maxHeartbeats 1600000 in
theorem roused_c (G : Glob) (hF : G.at 0 = some (.ra (firstK.map wD))) (hG : G.at 1 = some (.ra (constK.map wD))) : Den Tryd.prog G 35 [] (.w (.c (.d (.bool true)))) := by
  refine den_walk Tryd.func35 cf_roused rfl rfl ?_
  have hz : z32.length = 32 := z32_len
  have hr := root_c G hF hG [[1], [2]] (by decide) (by simp)
  have eV : rootV [[1], [2]] = rot09 := by
    unfold rootV
    rw [if_neg (by decide), rot09_eq]
  have eE : rootE [[1], [2]] = 0 := rfl
  rw [eV, eE] at hr
  have lr : rot09.length = 32 := sumK_len _
  have h1 := nsgnF_f G hF hG z32 0 0 rot09 (by omega)
  have f1 := fl_sgn z32 0 0 rot09
  have hE : sgE z32 0 0 rot09 = 0 := sgE_0 (h := 0) (n := 0) hz (by decide) (by decide) (by omega)
  have k2 : sgV' z32 0 0 rot09 = sgM z32 0 0 rot09 := if_pos hE
  have k3 : sgF z32 0 0 rot09 = .mix [.fr 1 (z32.map bD), .d (.int .i64 0), .d (.int .i64 (0 + 1))] := if_pos hE
  rw [hE, k2, k3] at h1 f1
  have hp := npub_f G hF hG z32 0
  have e0 : sckE z32 0 = 0 := sckE_in hz (by decide) (by decide)
  have eV : spubV z32 0 = rootM (lvsM z32 0) := if_pos e0
  rw [e0, eV] at hp
  have hv := sg_verifies z32 (h := 0) (n := 0) (msg := rot09) (by decide) (by decide) (by omega)
  have hl : (sgM z32 0 0 rot09).length = 565 := sgM_len z32 (h := 0) (n := 0) (by decide) rot09
  have hr32 := root_32 (lvsM z32 0)
  have q1 := nvf_c G hF hG (rootM (lvsM z32 0)) rot09 (sgM z32 0 0 rot09) (by omega) (by omega) (by omega)
  rw [hv] at q1
  have q2 := nvf_c G hF hG (rootM (lvsM z32 0)) oth09 (sgM z32 0 0 rot09) (by omega) (by decide) (by omega)
  rw [vrf_other] at q2
  have t32 : z32.take 32 = z32 := List.take_of_length_le (by omega)
  have zo : List.replicate 32 (D.int .u8 0) = z32.map bD := z32o
  have oo : [D.int .u8 111, D.int .u8 116, D.int .u8 104, D.int .u8 101, D.int .u8 114] = oth09.map bD := rfl
  have lo : oth09.length = 5 := rfl
  have to5 : oth09.take 5 = oth09 := rfl
  have d1 : [D.sl [D.int .u8 1], D.sl [D.int .u8 2]] = [[1], [2]].map fun l : List UInt8 => D.sl (l.map bD) := rfl
  generalize sgM z32 0 0 rot09 = b at *
  generalize rootM (lvsM z32 0) = r at *
  generalize z32 = z at *
  generalize rot09 = w at *
  generalize oth09 = o at *
  simp only [sf_roused, putAll, wx, wy, wz, stV, seval, IntWalk.iteOmega, IntWalk.toNatUp, reduceCtorEq]
  refine st_call (hr) rfl (.inl rfl) ?_
  simp only [lr, zo, wx, wy, wz, stV, seval, IntWalk.iteOmega, IntWalk.toNatUp, reduceCtorEq]
  refine st_call hp (by simp only [wx, wy, wz, stV, seval, IntWalk.iteOmega, IntWalk.toNatUp, reduceCtorEq, hz, t32] <;> rfl) (.inr (fl_by _ _ _ _)) ?_
  simp only [wx, wy, wz, stV, seval, IntWalk.iteOmega, IntWalk.toNatUp, reduceCtorEq, hl]
  refine st_call h1 (by simp only [wx, wy, wz, stV, seval, IntWalk.iteOmega, IntWalk.toNatUp, reduceCtorEq, hz, t32] <;> rfl) (.inr f1) ?_
  simp only [wx, wy, wz, stV, seval, IntWalk.iteOmega, IntWalk.toNatUp, reduceCtorEq, hl, lr]
  refine st_call (q1) rfl (.inl rfl) ?_
  simp only [oo, lo, wx, wy, wz, stV, seval, IntWalk.iteOmega, IntWalk.toNatUp, reduceCtorEq]
  refine st_call q2 (by simp only [wx, wy, wz, stV, seval, IntWalk.iteOmega, IntWalk.toNatUp, reduceCtorEq, to5] <;> rfl) (.inr rfl) ?_
  simp only [wx, wy, wz, stV, seval, IntWalk.iteOmega, IntWalk.toNatUp, reduceCtorEq]
  exact ret_d1 (by simp only [wx, wy, wz, stV, seval, IntWalk.iteOmega, IntWalk.toNatUp, reduceCtorEq])
end Go.Proofs.YtjgkchmdhicmpaaDoor
