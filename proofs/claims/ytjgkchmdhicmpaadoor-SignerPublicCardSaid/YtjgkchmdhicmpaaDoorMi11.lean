/- Texts of one's own, merged: from: Package slices on data: Chunk, which is ranged over (the kit's walk), AppendSeq to nil, Collect, over lists of bytes. Own work. -/
import Derived.RangeFuncBox
import Derived.RangeFuncLeaves
import Derived.Shelf.Abstract
import Derived.OwnWalkIn
import Derived.TacticsInMore
import Derived.LoopNIn
import Derived.LoopIn
import Derived.Test.YtjgkchmdhicmpaaDoorMi10
import Derived.Test.YtjgkchmdhicmpaaDoorMi7
import Derived.Test.YtjgkchmdhicmpaaDoorMi9
import Derived.Test.YtjgkchmdhicmpaaDoorMi12
set_option linter.unusedVariables false
set_option linter.unusedSimpArgs false
namespace Go.Proofs.YtjgkchmdhicmpaaDoor
open Go.RowKit
attribute [local go_sem] Oper.semAt_some

theorem cutM_get {b : List UInt8} {n k j : Nat} (h : j < k) : (cutM b n k)[j]? = some ((b.drop (n * j)).take n) := by
  unfold cutM; rw [List.getElem?_map, List.getElem?_range h]; rfl
def sf_chk : SFn := ⟨2, 9,
  .seq (.reg [⟨(some 2), .box .roBox (.t 0), none⟩,
    ⟨(some 3), .box .roBox (.t 1), none⟩,
    ⟨(some 4), .mv .u, none⟩])
  (.seq (.seq (.reg [⟨(some 5), .load .sc (.t 3), none⟩,
    ⟨(some 6), .bin .lss (.t 5) (.k (.c (.d (.int .i64 1)))), none⟩])
  (.cond (.t 6) (.reg [⟨none, .lenStr .u, none⟩])
   (.skip)))
  (.seq (.reg [⟨(some 8), .clos 125 [(.t 2), (.t 3)], none⟩,
    ⟨(some 4), .mv (.t 8), none⟩])
  (.ret))),
  [(4, none)]⟩
theorem cf_chk : compFn Tryd.prog { own := [], comp := [], frz := [], nils := [], bad := true } Tryd.f117 = some sf_chk := by kernel_rfl
theorem chk_c (G : Glob) (b : List UInt8) (n : Nat) (hn : 1 ≤ n) : Den Tryd.prog G 117 [.sl (b.map bD), .int .i64 (n : Int)] (.w (.c (.d (.fn 125 [.ref [.sl (b.map bD)], .ref [.int .i64 (n : Int)]])))) := by
  refine den_walk Tryd.func117 cf_chk rfl rfl ?_
  have h1 : ¬ ((n : Int) < 1) := by omega
  simp only [sf_chk, putAll, wx, wy, wz, stV, seval, IntWalk.iteOmega, IntWalk.toNatUp, reduceCtorEq]
  exact ret_d1 (by simp only [wx, wy, wz, stV, seval, IntWalk.iteOmega, IntWalk.toNatUp, reduceCtorEq])
theorem roundX {n n' : Nat} {P : Program} {l : Nat} {f : FuncId} {tmps : Array Value} {assign body : Code} {w : World} {R : Ending → World → Prop} (h : RoundIn Fence.wide n P l f tmps assign body w R) : RoundIn Fence.wide n' P l f tmps assign body w R :=
  ⟨h.1, fun c cs _ => h.2 c cs (room_wide _)⟩
theorem reads_cut {S : Cells} {w : World} {vb vo : Nat} {b : List UInt8} (h : RowAt S w ⟨vb, vo, none⟩ 1 (b.map bD)) {i n c : Nat} (h1 : i + n ≤ b.length) (hn : n ≤ c) (hc : c ≤ maxLen) :
    Reads S w (.slice (some ((⟨vb, vo, none⟩ : Addr).add i)) n c) (.sl (((b.drop i).take n).map bD)) := by
  have hl : (((b.drop i).take n).map bD).length = n := by rw [List.length_map, List.length_take, List.length_drop]; omega
  have hrow : RowAt S w ((⟨vb, vo, none⟩ : Addr).add i) 1 (((b.drop i).take n).map bD) := by
    intro j hj
    have hj' : j < n := by omega
    have e : (((b.drop i).take n).map bD)[j] = (b.map bD)[i + j]'(by rw [List.length_map]; omega) := by simp
    rw [e]
    obtain ⟨k1, k2⟩ := h (i + j) (by rw [List.length_map]; omega)
    refine ⟨k1, ?_⟩
    rw [add_none]
    have : vo + (i + j) * 1 = vo + i + j * 1 := by omega
    simp only at k2 ⊢
    rw [this] at k2
    exact k2
  have := Reads.of_row (cap := c) hrow (by omega) hc
  rw [hl] at this
  exact this
theorem chki_seq (G : Glob) (b : List UInt8) (n k : Nat) (hn : 1 ≤ n) (hn2 : n ≤ 140737488355328) (hb : b.length ≤ 140737488355328) (hk : b.length = n * k) : SeqD Tryd.prog G 125 [.ref [.sl (b.map bD)], .ref [.int .i64 (n : Int)]] ((cutM b n k).map fun l => [D.sl (l.map bD)]) := by
  refine ⟨enters_of Tryd.func125 (by kernel_rfl) rfl, ?_⟩
  intro fu w S lb hS hG hlb l J Jx hkeep hgrow hxgrow hround h0
  obtain ⟨p, q, rfl, hp, hq⟩ : ∃ p q, lb = [p, q] ∧ Reads S w p (.ref [.sl (b.map bD)]) ∧ Reads S w q (.ref [.int .i64 (n : Int)]) := by
    cases hlb with
    | cons h1 h2 => cases h2 with | cons h2 h3 => cases h3; exact ⟨_, _, rfl, h1, h2⟩
  obtain ⟨ad, rfl, hcells⟩ := hp.cellsAt
  obtain ⟨sv, hSad, hcell, hsv⟩ := hcells 0 (by simp)
  simp only [List.getElem_cons_zero, Nat.add_zero] at hSad hcell hsv
  obtain ⟨ad2, rfl, hcells2⟩ := hq.cellsAt
  obtain ⟨sv2, hSad2, hcell2, hsv2⟩ := hcells2 0 (by simp)
  simp only [List.getElem_cons_zero, Nat.add_zero] at hSad2 hcell2 hsv2
  cases hsv2
  refine callsIn_of_wp Tryd.func125 rfl trivial ?_
  simp only [Tryd.ntmps125, List.size_toArray, List.length_cons, List.length_nil, Nat.reduceAdd, Nat.reduceSub, Array.replicate_succ, Array.replicate_zero, List.push_toArray, List.append_toArray, List.nil_append, List.cons_append]
  obtain ⟨ab, ao, asp⟩ := ad
  obtain ⟨nb, no, nsp⟩ := ad2
  have hcellW : ∀ k W, J k W → W.cell? ⟨ab, ao, asp⟩ = some sv := fun k W hj => (hkeep k W hj).1.at hSad hcell
  have hcellN : ∀ k W, J k W → W.cell? ⟨nb, no, nsp⟩ = some (.int .i64 (n : Int)) := fun k W hj => (hkeep k W hj).1.at hSad2 hcell2
  gi_wp2
  rcases hsv.row with ⟨rfl, hnil⟩ | ⟨av, cap, sz, rfl, hcap, hmax, hrow⟩
  · have hb0 : b = [] := by simpa using hnil
    subst hb0
    have hk0 : k = 0 := by
      rcases Nat.eq_zero_or_pos k with h | h
      · exact h
      · have := Nat.mul_le_mul_left n h
        simp at hk; omega
    subst hk0
    gi_loopw [4] (fun i wr => i = .int .i64 0 ∧ J 0 wr) (fun i _ => 0)
    case atStart => exact ⟨rfl, h0⟩
    case round =>
      obtain ⟨rfl, hJs⟩ := hrel
      have hc := hcellW 0 wr hJs
      gi_wp2
      go_end0
      exact ⟨⟨_, rfl⟩, .inl hJs⟩
  · have hlen : (b.map bD).length = b.length := List.length_map _
    rw [hlen] at hcap hcellW
    obtain ⟨vb, vo, vs⟩ := av
    gi_loopw [4] (fun i wr => ∃ j p : Nat, j ≤ k ∧ p = n * j ∧ i = .int .i64 ((p : Nat) : Int) ∧ J j wr) (fun i _ => b.length + n - (intOf i).toNat)
    case atStart => exact ⟨0, 0, Nat.zero_le _, rfl, rfl, h0⟩
    case round =>
      obtain ⟨j, p, hj, hp', rfl, hJs⟩ := hrel
      have hc := hcellW j wr hJs
      have hcn := hcellN j wr hJs
      by_cases hlt : j < k
      · have hm := Nat.mul_le_mul_left n (show j + 1 ≤ k from hlt)
        rw [Nat.mul_succ, ← hk, ← hp'] at hm
        obtain ⟨c1, c2⟩ := hrow 0 (by rw [hlen]; omega)
        obtain rfl : sz = 1 := by rw [← c1, List.getElem_map]; rfl
        have hvs : vs = none := by
          obtain ⟨v, _, c3, _⟩ := c2 0 (by rw [List.getElem_map]; exact Nat.one_pos)
          exact cell_spot c3
        subst hvs
        have hget : ((cutM b n k).map fun l => [D.sl (l.map bD)])[j]? = some [D.sl (((b.drop p).take n).map bD)] := by
          rw [List.getElem?_map, cutM_get hlt, ← hp']; rfl
        have hJ2 : J j wr.drew := hgrow j wr wr.drew hJs (Below.refl _ _).drew
        have hc2 := hcellW j wr.drew hJ2
        have hcn2 := hcellN j wr.drew hJ2
        have hE : (((n : Int) * (j : Int) + min (n : Int) ((n * k - n * j : Nat) : Int)).toNat - n * j) = n := by
          rw [← Int.natCast_mul]; omega
        obtain ⟨fn, tmps, assign, body, hy, hR⟩ := hround j _ wr.drew [.slice (some ⟨vb, vo + n * j, none⟩) (((n : Int) * (j : Int) + min (n : Int) ((n * k - n * j : Nat) : Int)).toNat - n * j) (((n : Int) * (j : Int) + min (n : Int) ((n * k - n * j : Nat) : Int)).toNat - n * j)] hget hJ2 (by
          rw [← add_none, hE, hp']
          exact .cons (reads_cut (hrow.keep (hkeep j wr.drew hJ2).1) (by omega) (by omega) (by unfold maxLen; omega)) .nil)
        have hy : (Instr.yield l #[.slice (some ⟨vb, vo + n * j, none⟩) (((n : Int) * (j : Int) + min (n : Int) ((n * k - n * j : Nat) : Int)).toNat - n * j) (((n : Int) * (j : Int) + min (n : Int) ((n * k - n * j : Nat) : Int)).toNat - n * j)]).run Tryd.prog wr.drew = .ok (.round l fn tmps assign body) wr.drew := hy
        clear hE
        gi_wp2
        gi_region
        gi_wp2
        refine ⟨fun h => (by cases h), (roundX hR).mono ?_⟩
        rintro e W3 (⟨rfl, hJ3⟩ | ⟨rfl, hJx3⟩)
        · have hc3 := hcellN (j + 1) W3 hJ3
          gi_wp2
          go_roundw
          case rel => exact ⟨j + 1, n * (j + 1), hlt, rfl, by rw [Nat.mul_succ]; simp, hJ3⟩
          case measure => simp [intOf]; omega
        · gi_wp2
          refine bodyPost_ret (results_none rfl _ _ _) rfl ?_
          exact ⟨⟨_, rfl⟩, .inr hJx3⟩
      · obtain rfl : j = k := by omega
        gi_wp2
        refine bodyPost_end (results_none rfl _ _ _) rfl ?_
        have e : ((cutM b n j).map fun l => [D.sl (l.map bD)]).length = j := by
          rw [List.length_map, cutM_len]
        rw [e]
        exact ⟨⟨_, rfl⟩, .inl hJs⟩
/-! ### AppendSeq to nil, Collect -/
abbrev asqL : List (Nat × V) := [(2, .w (.c (.ptr 1 1 0 0)))]
def asqF : Nat → V := ofL asqL
def asqV : Nat → C
  | 0 => .nil
  | j + 1 => .own 2 1 0 (j + 1)
def asqO (l : List (List UInt8)) : Nat → List (Nat × Ob)
  | 0 => [(1, .box [.nil])]
  | j + 1 => [(1, .box [.own 2 1 0 (j + 1)]), (2, .row 1 ((l.take (j + 1)).map fun l => D.sl (l.map bD)))]
def asqU : Nat → List Nat
  | 0 => [1]
  | _ + 1 => [1, 2]
def asqH (l : List (List UInt8)) (k : Nat) : Heap × (Nat → Bool) := (hL (asqO l k), uL (asqU k))
theorem ofL_unX {l : List (Nat × V)} {ts : List Nat} (h : ts.all (fun t => !(l.map (·.1)).contains t) = true) : ∀ t ∈ ts, ofL l t = .undef := by
  intro t ht
  have h1 := List.all_eq_true.1 h t ht
  have h2 : t ∉ l.map (·.1) := by simpa using h1
  clear h h1 ht
  induction l with
  | nil => rfl
  | cons p l ih =>
    simp only [List.map_cons, List.mem_cons, not_or] at h2
    show upd (ofL l) p.1 p.2 t = _
    unfold upd
    rw [if_neg h2.1]
    exact ih h2.2
def lp_asq_0 : SCode :=
  .reg [⟨(some 5), .mv (.t 7), none⟩]
def lp_asq_1 : SCode :=
  .block 1 (.reg [⟨(some 8), .load .sc (.t 2), none⟩,
     ⟨(some 9), .mv (.t 5), none⟩,
     ⟨(some 10), .bldSl false 1 1 (.sl []) [(0, (.t 9))], none⟩,
     ⟨(some 11), .app false 1 24 (.t 8) (.t 10), none⟩,
     ⟨none, .store .sc (.t 2) (.t 11), none⟩])
def sf_asq : SFn := ⟨2, 13,
  .seq (.reg [⟨(some 2), .box .ownBox (.t 0), none⟩,
    ⟨(some 4), .mv (.k (.c .nil)), none⟩])
  (.seq (.seq (.reg [⟨(some 6), .mv (.t 1), none⟩])
  (.block 0 (.rangeF (.t 6) [7] lp_asq_0 lp_asq_1)))
  (.seq (.reg [⟨(some 12), .load .sc (.t 2), none⟩,
    ⟨(some 4), .mv (.t 12), none⟩])
  (.ret))),
  [(4, none)]⟩
theorem cf_asq : compFn Tryd.prog { own := [2], comp := [], frz := [], nils := [] } Tryd.f124 = some sf_asq := by kernel_rfl
set_option maxHeartbeats 1600000 in
theorem asq_w (G : Glob) (l : List (List UInt8)) (g : Nat) (caps : List D) (hl0 : l.length ≤ 1000000000) (hs : SeqD Tryd.prog G g caps (l.map fun l => [D.sl (l.map bD)])) : DenW Tryd.prog G 124 [.c .nil, .c (.d (.fn g caps))] (.w (.c (.fr 1 (l.map fun l => D.sl (l.map bD))))) := by
  refine denW_walk Tryd.func124 cf_asq rfl rfl rfl ?_
  simp only [sf_asq, putW, wx, wy, wz, stV, seval, IntWalk.iteOmega, IntWalk.toNatUp, reduceCtorEq]
  refine range_st asqF (f1 := ofL asqL) rfl (asqH l) rfl hs ?_ ?_ ?_ ?_ ?_
  · intro r hr
    obtain ⟨x, _, rfl⟩ := List.mem_map.1 hr
    rfl
  · refine ent_l (fun _ => 16) ?_ ?_ rfl rfl <;> simp only [asqL, asqO, asqU, wx, wex, wez, stV, seval, IntWalk.iteOmega, IntWalk.toNatUp, reduceCtorEq]
  · exact ofL_unX (by rfl)
  · intro k r hr
    obtain ⟨hk, rfl⟩ : ∃ h : k < l.length, r = [D.sl (l[k].map bD)] := by
      rw [List.getElem?_map] at hr
      rcases Nat.lt_or_ge k l.length with h | h
      · rw [List.getElem?_eq_getElem h] at hr
        exact ⟨h, by simpa using hr.symm⟩
      · rw [List.getElem?_eq_none h] at hr
        cases hr
    have ht : (l.take k).map (fun l => D.sl (l.map bD)) ++ [D.sl (l[k].map bD)] = (l.take (k + 1)).map fun l => D.sl (l.map bD) := by
      rw [List.take_succ_eq_append_getElem hk, List.map_append]; rfl
    have hl : (l.take (k + 1)).length = k + 1 := by rw [List.length_take]; omega
    rcases k with _ | k
    · have ht : [D.sl (l[0].map bD)] = (l.take (0 + 1)).map fun l => D.sl (l.map bD) := by rw [← ht]; rfl
      simp only [lp_asq_0, lp_asq_1, asqH, asqO, asqU, asqL, parsL, wx, wy, wz, stV, seval, IntWalk.iteOmega, IntWalk.toNatUp, reduceCtorEq, srcV]
      refine rng_next (f1 := ofL asqL) rfl ?_
      refine ent_l (fun i => if i = 1 then 1 else 88) ?_ ?_ rfl rfl <;> simp only [asqL, asqO, asqU, wx, wex, wez, stV, seval, IntWalk.iteOmega, IntWalk.toNatUp, reduceCtorEq, ht, hl]
    · have hl2 : (l.take (k + 1)).length = k + 1 := by rw [List.length_take]; omega
      simp only [lp_asq_0, lp_asq_1, asqH, asqO, asqU, asqL, parsL, wx, wy, wz, stV, seval, IntWalk.iteOmega, IntWalk.toNatUp, reduceCtorEq, srcV, hl2]
      refine rng_next (f1 := ofL asqL) rfl ?_
      refine ent_l (fun i => if i = 1 then 1 else 88) ?_ ?_ rfl rfl <;> simp only [asqL, asqO, asqU, wx, wex, wez, stV, seval, IntWalk.iteOmega, IntWalk.toNatUp, reduceCtorEq, ht, hl, hl2]
  · rw [List.length_map]
    have ht : l.take l.length = l := List.take_of_length_le (Nat.le_refl _)
    rcases hn : l.length with _ | n
    · have h0 : l = [] := List.length_eq_zero_iff.1 hn
      subst h0
      simp only [asqH, asqO, asqU, asqL, wx, wy, wz, stV, seval, IntWalk.iteOmega, IntWalk.toNatUp, reduceCtorEq]
      exact ret_f1 (by simp only [wx, wy, wz, stV, seval, IntWalk.iteOmega, IntWalk.toNatUp, reduceCtorEq])
    · rw [hn] at ht
      simp only [asqH, asqO, asqU, asqL, wx, wy, wz, stV, seval, IntWalk.iteOmega, IntWalk.toNatUp, reduceCtorEq, ht]
      exact ret_f1 (by simp only [wx, wy, wz, stV, seval, IntWalk.iteOmega, IntWalk.toNatUp, reduceCtorEq, hn])
def sf_coll : SFn := ⟨1, 5,
  .seq (.reg [⟨(some 2), .mv (.k (.c .nil)), none⟩])
  (.seq (.reg [⟨(some 3), .mv (.t 0), none⟩,
    ⟨(some 4), .call 124 [(.k (.c .nil)), (.t 3)] (some (0, 1)), none⟩,
    ⟨(some 2), .mv (.t 4), none⟩])
  (.ret)),
  [(2, none)]⟩
theorem cf_coll : compFn Tryd.prog { own := [4], comp := [], frz := [], nils := [] } Tryd.f116 = some sf_coll := by kernel_rfl
theorem coll_f (G : Glob) (l : List (List UInt8)) (g : Nat) (caps : List D) (hl0 : l.length ≤ 1000000000) (hs : SeqD Tryd.prog G g caps (l.map fun l => [D.sl (l.map bD)])) : Den Tryd.prog G 116 [.fn g caps] (.w (.c (.fr 1 (l.map fun l => D.sl (l.map bD))))) := by
  refine den_walk Tryd.func116 cf_coll rfl rfl ?_
  simp only [sf_coll, putAll, wx, wy, wz, stV, seval, IntWalk.iteOmega, IntWalk.toNatUp, reduceCtorEq]
  refine st_callW (asq_w G l g caps hl0 hs) rfl rfl (.inl rfl) ?_
  simp only [wx, wy, wz, stV, seval, IntWalk.iteOmega, IntWalk.toNatUp, reduceCtorEq]
  exact ret_f1 (by simp only [wx, wy, wz, stV, seval, IntWalk.iteOmega, IntWalk.toNatUp, reduceCtorEq])
def sf_pcs : SFn := ⟨2, 9,
  .seq (.reg [⟨(some 4), .mv (.k (.c .nil)), none⟩])
  (.seq (.reg [⟨(some 5), .mv (.t 0), none⟩,
    ⟨(some 6), .mv (.t 1), none⟩,
    ⟨(some 7), .call 117 [(.t 5), (.t 6)] none, none⟩,
    ⟨(some 8), .call 116 [(.t 7)] (some (0, 1)), none⟩,
    ⟨(some 4), .mv (.t 8), none⟩])
  (.ret)),
  [(4, none)]⟩
theorem cf_pcs : compFn Tryd.prog { own := [8], comp := [], frz := [], nils := [] } Tryd.f90 = some sf_pcs := by kernel_rfl
theorem pcs_f (G : Glob) (b : List UInt8) (n k : Nat) (hn : 1 ≤ n) (hn2 : n ≤ 140737488355328) (hb : b.length ≤ 140737488355328) (hk : b.length = n * k) (hk2 : k ≤ 1000000000) : Den Tryd.prog G 90 [.sl (b.map bD), .int .i64 (n : Int)] (.w (.c (.fr 1 ((cutM b n k).map fun l => D.sl (l.map bD))))) := by
  refine den_walk Tryd.func90 cf_pcs rfl rfl ?_
  simp only [sf_pcs, putAll, wx, wy, wz, stV, seval, IntWalk.iteOmega, IntWalk.toNatUp, reduceCtorEq]
  refine st_call (chk_c G b n hn) rfl (.inl rfl) ?_
  simp only [wx, wy, wz, stV, seval, IntWalk.iteOmega, IntWalk.toNatUp, reduceCtorEq]
  refine st_call (coll_f G (cutM b n k) _ _ (by rw [cutM_len]; exact hk2) (chki_seq G b n k hn hn2 hb hk)) rfl (.inl rfl) ?_
  simp only [wx, wy, wz, stV, seval, IntWalk.iteOmega, IntWalk.toNatUp, reduceCtorEq]
  exact ret_f1 (by simp only [wx, wy, wz, stV, seval, IntWalk.iteOmega, IntWalk.toNatUp, reduceCtorEq])
end Go.Proofs.YtjgkchmdhicmpaaDoor
set_option linter.unusedVariables false
set_option linter.unusedSimpArgs false
namespace Go.Proofs.YtjgkchmdhicmpaaDoor
open Go.RowKit

/-- A key for several messages. -/
abbrev keyD (seed : List UInt8) (h n : Int) : D := .agg [.sl (seed.map bD), .int .i64 h, .int .i64 n]
theorem shl6 {h : Nat} (hh : h ≤ 6) : binV .shl (.w (.c (.d (.int .i64 1)))) (.w (.c (.d (.int .i64 (h : Int))))) = some (.int .i64 ((2 ^ h : Nat) : Int)) := by
  have : h = 0 ∨ h = 1 ∨ h = 2 ∨ h = 3 ∨ h = 4 ∨ h = 5 ∨ h = 6 := by omega
  rcases this with rfl | rfl | rfl | rfl | rfl | rfl | rfl <;> rfl
theorem shl6u {h : Nat} (hh : h ≤ 6) : binV .shl (.w (.c (.d (.int .i64 1)))) (.w (.c (.d (.int .u64 (h : Int))))) = some (.int .i64 ((2 ^ h : Nat) : Int)) := by
  have : h = 0 ∨ h = 1 ∨ h = 2 ∨ h = 3 ∨ h = 4 ∨ h = 5 ∨ h = 6 := by omega
  rcases this with rfl | rfl | rfl | rfl | rfl | rfl | rfl <;> rfl
def sf_nsz : SFn := ⟨1, 5,
  .seq (.reg [⟨(some 2), .mv (.k (.c (.d (.int .i64 0)))), none⟩])
  (.seq (.reg [⟨(some 3), .mv (.t 0), none⟩,
    ⟨(some 4), .bin .shl (.k (.c (.d (.int .i64 1)))) (.t 3), none⟩,
    ⟨(some 2), .mv (.t 4), none⟩])
  (.ret)),
  [(2, none)]⟩
theorem cf_nsz : compFn Tryd.prog { own := [], comp := [], frz := [], nils := [] } Tryd.f52 = some sf_nsz := by kernel_rfl
theorem nsz_c (G : Glob) (h : Nat) (hh : h ≤ 6) : Den Tryd.prog G 52 [.int .i64 (h : Int)] (.w (.c (.d (.int .i64 ((2 ^ h : Nat) : Int))))) := by
  refine den_walk Tryd.func52 cf_nsz rfl rfl ?_
  have e := shl6 hh
  generalize 2 ^ h = m at *
  simp only [sf_nsz, putAll, wx, wy, wz, stV, seval, IntWalk.iteOmega, IntWalk.toNatUp, reduceCtorEq, e]
  exact ret_d1 (by simp only [wx, wy, wz, stV, seval, IntWalk.iteOmega, IntWalk.toNatUp, reduceCtorEq])
def sf_nchk : SFn := ⟨2, 14,
  .seq (.reg [⟨(some 4), .mv (.k (.c (.d (.int .i64 0)))), none⟩])
  (.seq (.seq (.reg [⟨(some 5), .mv (.t 0), none⟩,
    ⟨(some 6), .len (.t 5), none⟩,
    ⟨(some 7), .bin .neq (.t 6) (.k (.c (.d (.int .i64 32)))), none⟩])
  (.cond (.t 7) (.seq (.reg [⟨(some 4), .mv (.k (.c (.d (.int .i64 5)))), none⟩])
   (.ret))
   (.skip)))
  (.seq (.seq (.reg [⟨(some 8), .mv (.t 1), none⟩,
    ⟨(some 9), .bin .lss (.t 8) (.k (.c (.d (.int .i64 0)))), none⟩,
    ⟨(some 10), .mv (.t 9), none⟩,
    ⟨(some 11), .mv (.t 1), (some (10, false))⟩,
    ⟨(some 12), .bin .gtr (.t 11) (.k (.c (.d (.int .i64 6)))), (some (10, false))⟩,
    ⟨(some 13), .pick (.t 10) (.k (.c (.d (.bool true)))) (.t 12), none⟩])
  (.cond (.t 13) (.seq (.reg [⟨(some 4), .mv (.k (.c (.d (.int .i64 4)))), none⟩])
   (.ret))
   (.skip)))
  (.seq (.reg [⟨(some 4), .mv (.k (.c (.d (.int .i64 0)))), none⟩])
  (.ret)))),
  [(4, none)]⟩
theorem cf_nchk : compFn Tryd.prog { own := [], comp := [], frz := [], nils := [] } Tryd.f53 = some sf_nchk := by kernel_rfl
theorem nchk_c (G : Glob) (seed : List UInt8) (h : Int) : Den Tryd.prog G 53 [.sl (seed.map bD), .int .i64 h] (.w (.c (.d (.int .i64 (sckE seed h))))) := by
  refine den_walk Tryd.func53 cf_nchk rfl rfl ?_
  unfold sckE
  by_cases hl : seed.length = 32
  · rw [if_neg (by omega)]
    by_cases h1 : h < 0
    · rw [if_pos (.inl h1)]
      simp only [sf_nchk, putAll, wx, wy, wz, stV, seval, IntWalk.iteOmega, IntWalk.toNatUp, reduceCtorEq, hl]
      exact ret_d1 (by simp only [wx, wy, wz, stV, seval, IntWalk.iteOmega, IntWalk.toNatUp, reduceCtorEq])
    · by_cases h2 : 6 < h
      · rw [if_pos (.inr h2)]
        simp only [sf_nchk, putAll, wx, wy, wz, stV, seval, IntWalk.iteOmega, IntWalk.toNatUp, reduceCtorEq, hl]
        exact ret_d1 (by simp only [wx, wy, wz, stV, seval, IntWalk.iteOmega, IntWalk.toNatUp, reduceCtorEq])
      · rw [if_neg (by omega)]
        simp only [sf_nchk, putAll, wx, wy, wz, stV, seval, IntWalk.iteOmega, IntWalk.toNatUp, reduceCtorEq, hl]
        exact ret_d1 (by simp only [wx, wy, wz, stV, seval, IntWalk.iteOmega, IntWalk.toNatUp, reduceCtorEq])
  · rw [if_pos hl]
    simp only [sf_nchk, putAll, wx, wy, wz, stV, seval, IntWalk.iteOmega, IntWalk.toNatUp, reduceCtorEq]
    exact ret_d1 (by simp only [wx, wy, wz, stV, seval, IntWalk.iteOmega, IntWalk.toNatUp, reduceCtorEq])
theorem sval_1 {seed : List UInt8} {h n : Int} (e : ¬ sckE seed h = 0) : svalB seed h n = false := decide_eq_false fun k => e k.1
theorem sval_2 {seed : List UInt8} {h n : Int} (e : n < 0) : svalB seed h n = false := decide_eq_false fun k => by omega
theorem sval_ok {seed : List UInt8} {h n : Int} (e : svalB seed h n = true) : seed.length = 32 ∧ 0 ≤ h ∧ h ≤ 6 ∧ 0 ≤ n ∧ n ≤ ((2 ^ h.toNat : Nat) : Int) := by
  unfold svalB at e
  obtain ⟨e1, e2, e3⟩ := of_decide_eq_true e
  obtain ⟨a, b, c⟩ := sckE_ok e1
  exact ⟨a, b, c, e2, e3⟩
def sf_nval : SFn := ⟨1, 22,
  .seq (.reg [⟨(some 1), .box .roBox (.t 0), none⟩,
    ⟨(some 2), .mv (.k (.c (.d (.bool false)))), none⟩])
  (.seq (.reg [⟨(some 3), .fieldAddr 0 (.t 1), none⟩,
    ⟨(some 4), .load .sc (.t 3), none⟩,
    ⟨(some 5), .fieldAddr 1 (.t 1), none⟩,
    ⟨(some 6), .load .sc (.t 5), none⟩,
    ⟨(some 7), .call 53 [(.t 4), (.t 6)] none, none⟩,
    ⟨(some 8), .bin .eql (.t 7) (.k (.c (.d (.int .i64 0)))), none⟩,
    ⟨(some 9), .mv (.t 8), none⟩,
    ⟨(some 10), .fieldAddr 2 (.t 1), (some (9, true))⟩,
    ⟨(some 11), .load .sc (.t 10), (some (9, true))⟩,
    ⟨(some 12), .bin .geq (.t 11) (.k (.c (.d (.int .i64 0)))), (some (9, true))⟩,
    ⟨(some 13), .pick (.t 9) (.t 12) (.k (.c (.d (.bool false)))), none⟩,
    ⟨(some 14), .mv (.t 13), none⟩,
    ⟨(some 15), .fieldAddr 2 (.t 1), (some (14, true))⟩,
    ⟨(some 16), .load .sc (.t 15), (some (14, true))⟩,
    ⟨(some 17), .fieldAddr 1 (.t 1), (some (14, true))⟩,
    ⟨(some 18), .load .sc (.t 17), (some (14, true))⟩,
    ⟨(some 19), .call 52 [(.t 18)] none, (some (14, true))⟩,
    ⟨(some 20), .bin .leq (.t 16) (.t 19), (some (14, true))⟩,
    ⟨(some 21), .pick (.t 14) (.t 20) (.k (.c (.d (.bool false)))), none⟩,
    ⟨(some 2), .mv (.t 21), none⟩])
  (.ret)),
  [(2, none)]⟩
theorem cf_nval : compFn Tryd.prog { own := [], comp := [], frz := [], nils := [] } Tryd.f16 = some sf_nval := by kernel_rfl
theorem nval_c (G : Glob) (seed : List UInt8) (h n : Int) : Den Tryd.prog G 16 [keyD seed h n] (.w (.c (.d (.bool (svalB seed h n))))) := by
  refine den_walk Tryd.func16 cf_nval rfl rfl ?_
  have hk := nchk_c G seed h
  by_cases e : sckE seed h = 0
  · obtain ⟨k1, k2, k3⟩ := sckE_ok e
    by_cases h1 : n < 0
    · rw [sval_2 h1]
      rw [e] at hk
      simp only [sf_nval, putAll, wx, wy, wz, stV, seval, IntWalk.iteOmega, IntWalk.toNatUp, reduceCtorEq]
      refine st_call (hk) rfl (.inl rfl) ?_
      simp only [wx, wy, wz, stV, seval, IntWalk.iteOmega, IntWalk.toNatUp, reduceCtorEq]
      exact ret_d1 (by simp only [wx, wy, wz, stV, seval, IntWalk.iteOmega, IntWalk.toNatUp, reduceCtorEq])
    · have hn : 0 ≤ n := by omega
      rw [e] at hk
      obtain ⟨m, rfl⟩ := Int.eq_ofNat_of_zero_le k2
      have hs := nsz_c G m (by omega)
      have hV : svalB seed (m : Int) n = decide (n ≤ ((2 ^ m : Nat) : Int)) := by
        unfold svalB
        simp only [e, hn, true_and]
        rfl
      rw [hV]
      generalize 2 ^ m = p at *
      by_cases h2 : n ≤ (p : Int)
      · rw [decide_eq_true h2]
        simp only [sf_nval, putAll, wx, wy, wz, stV, seval, IntWalk.iteOmega, IntWalk.toNatUp, reduceCtorEq]
        refine st_call (hk) rfl (.inl rfl) ?_
        simp only [wx, wy, wz, stV, seval, IntWalk.iteOmega, IntWalk.toNatUp, reduceCtorEq]
        refine st_call (hs) rfl (.inl rfl) ?_
        simp only [wx, wy, wz, stV, seval, IntWalk.iteOmega, IntWalk.toNatUp, reduceCtorEq]
        exact ret_d1 (by simp only [wx, wy, wz, stV, seval, IntWalk.iteOmega, IntWalk.toNatUp, reduceCtorEq])
      · rw [decide_eq_false h2]
        simp only [sf_nval, putAll, wx, wy, wz, stV, seval, IntWalk.iteOmega, IntWalk.toNatUp, reduceCtorEq]
        refine st_call (hk) rfl (.inl rfl) ?_
        simp only [wx, wy, wz, stV, seval, IntWalk.iteOmega, IntWalk.toNatUp, reduceCtorEq]
        refine st_call (hs) rfl (.inl rfl) ?_
        simp only [wx, wy, wz, stV, seval, IntWalk.iteOmega, IntWalk.toNatUp, reduceCtorEq]
        exact ret_d1 (by simp only [wx, wy, wz, stV, seval, IntWalk.iteOmega, IntWalk.toNatUp, reduceCtorEq])
  · rw [sval_1 e]
    generalize sckE seed h = x at *
    simp only [sf_nval, putAll, wx, wy, wz, stV, seval, IntWalk.iteOmega, IntWalk.toNatUp, reduceCtorEq]
    refine st_call (hk) rfl (.inl rfl) ?_
    simp only [wx, wy, wz, stV, seval, IntWalk.iteOmega, IntWalk.toNatUp, reduceCtorEq]
    exact ret_d1 (by simp only [wx, wy, wz, stV, seval, IntWalk.iteOmega, IntWalk.toNatUp, reduceCtorEq])
def sf_nlft : SFn := ⟨1, 13,
  .seq (.reg [⟨(some 1), .box .roBox (.t 0), none⟩,
    ⟨(some 2), .mv (.k (.c (.d (.int .i64 0)))), none⟩,
    ⟨(some 3), .mv (.k (.c (.d (.int .i64 0)))), none⟩])
  (.seq (.seq (.reg [⟨(some 4), .load (.ag 3) (.t 1), none⟩,
    ⟨(some 5), .call 16 [(.t 4)] none, none⟩,
    ⟨(some 6), .un .not (.t 5), none⟩])
  (.cond (.t 6) (.seq (.reg [⟨(some 2), .mv (.k (.c (.d (.int .i64 0)))), none⟩,
     ⟨(some 3), .mv (.k (.c (.d (.int .i64 3)))), none⟩])
   (.ret))
   (.skip)))
  (.seq (.reg [⟨(some 7), .fieldAddr 1 (.t 1), none⟩,
    ⟨(some 8), .load .sc (.t 7), none⟩,
    ⟨(some 9), .call 52 [(.t 8)] none, none⟩,
    ⟨(some 10), .fieldAddr 2 (.t 1), none⟩,
    ⟨(some 11), .load .sc (.t 10), none⟩,
    ⟨(some 12), .bin .sub (.t 9) (.t 11), none⟩,
    ⟨(some 2), .mv (.t 12), none⟩,
    ⟨(some 3), .mv (.k (.c (.d (.int .i64 0)))), none⟩])
  (.ret))),
  [(2, none), (3, none)]⟩
theorem cf_nlft : compFn Tryd.prog { own := [], comp := [], frz := [], nils := [] } Tryd.f14 = some sf_nlft := by kernel_rfl
theorem nlft_c (G : Glob) (seed : List UInt8) (h n : Int) : Den Tryd.prog G 14 [keyD seed h n] (.tup [.c (.d (.int .i64 (sleftV seed h n))), .c (.d (.int .i64 (sleftE seed h n)))]) := by
  refine den_walk Tryd.func14 cf_nlft rfl rfl ?_
  have hk := nval_c G seed h n
  unfold sleftV sleftE
  cases e : svalB seed h n
  · rw [e] at hk
    simp only [sf_nlft, putAll, wx, wy, wz, stV, seval, IntWalk.iteOmega, IntWalk.toNatUp, reduceCtorEq]
    refine st_call (hk) rfl (.inl rfl) ?_
    simp only [wx, wy, wz, stV, seval, IntWalk.iteOmega, IntWalk.toNatUp, reduceCtorEq]
    exact ret_d2 (by simp only [wx, wy, wz, stV, seval, IntWalk.iteOmega, IntWalk.toNatUp, reduceCtorEq]) (by simp only [wx, wy, wz, stV, seval, IntWalk.iteOmega, IntWalk.toNatUp, reduceCtorEq])
  · rw [e] at hk
    obtain ⟨k1, k2, k3, k4, k5⟩ := sval_ok e
    obtain ⟨m, rfl⟩ := Int.eq_ofNat_of_zero_le k2
    have h64 := pow6 (h := m) (by omega)
    have hs := nsz_c G m (by omega)
    have et : ((m : Int).toNat) = m := rfl
    rw [et] at k5 ⊢
    generalize 2 ^ m = p at *
    simp only [sf_nlft, putAll, wx, wy, wz, stV, seval, IntWalk.iteOmega, IntWalk.toNatUp, reduceCtorEq]
    refine st_call (hk) rfl (.inl rfl) ?_
    simp only [wx, wy, wz, stV, seval, IntWalk.iteOmega, IntWalk.toNatUp, reduceCtorEq]
    refine st_call (hs) rfl (.inl rfl) ?_
    simp only [wx, wy, wz, stV, seval, IntWalk.iteOmega, IntWalk.toNatUp, reduceCtorEq]
    exact ret_d2 (by simp only [wx, wy, wz, stV, seval, IntWalk.iteOmega, IntWalk.toNatUp, reduceCtorEq]) (by simp only [wx, wy, wz, stV, seval, IntWalk.iteOmega, IntWalk.toNatUp, reduceCtorEq])
theorem pubV_ok {seed : List UInt8} {i : Nat} (h : seed.length = 32) (hi : i ≤ 2147483647) : chkE seed (i : Int) = 0 ∧ pubV seed (i : Int) = pubM seed i := by
  have hk : chkE seed (i : Int) = 0 := by unfold chkE; rw [if_neg (by omega), if_neg (by omega)]
  exact ⟨hk, if_pos hk⟩
def nlvSt (seed : List UInt8) (N j : Nat) : St := ⟨ofL [(0, .w (.c (.d (.sl (seed.map bD))))), (5, .w (.c (.own 1 1 0 N))), (11, .w (.c (.d (.int .i64 (N : Int))))), (12, .w (.c (.d (.int .i64 (j : Int)))))], hL [(1, .row 1 ((lvsN seed j ++ List.replicate (N - j) []).map fun l : List UInt8 => D.sl (l.map bD)))], uL [1]⟩
theorem lvs_set (seed : List UInt8) {N j : Nat} (h : j < N) : (lvsN seed j ++ List.replicate (N - j) []).set j (pubM seed j) = lvsN seed (j + 1) ++ List.replicate (N - (j + 1)) [] := by
  have hl := lvsN_len seed j
  rw [List.set_append_right _ _ (by omega), hl, Nat.sub_self, show N - j = (N - (j + 1)) + 1 by omega, List.replicate_succ, List.set_cons_zero, ← lvsN_succ, List.append_assoc]; rfl
def lp_nlvs_0 : SCode :=
  .seq (.reg [⟨(some 13), .bin .lss (.t 12) (.t 11), none⟩])
  (.seq (.cond (.t 13) (.skip)
   (.exit 0))
  (.seq (.block 1 (.seq (.reg [⟨(some 14), .mv (.t 12), none⟩,
     ⟨(some 6), .mv (.t 14), none⟩])
   (.reg [⟨(some 16), .mv (.t 5), none⟩,
     ⟨(some 17), .mv (.t 6), none⟩,
     ⟨(some 18), .mv (.t 0), none⟩,
     ⟨(some 19), .mv (.t 6), none⟩,
     ⟨(some 20), .call 98 [(.t 18), (.t 19)] none, none⟩,
     ⟨(some 15), .mv (.t 20), none⟩,
     ⟨(some 21), .extract (.t 15) 0, none⟩,
     ⟨(some 22), .extract (.t 15) 1, none⟩,
     ⟨(some 23), .idxSl 1 (.t 16) (.t 17), none⟩,
     ⟨none, .store .sc (.t 23) (.t 21), none⟩])))
  (.reg [⟨(some 24), .bin .add (.t 12) (.k (.c (.d (.int .i64 1)))), none⟩,
    ⟨(some 12), .mv (.t 24), none⟩])))
def sf_nlvs : SFn := ⟨2, 26,
  .seq (.reg [⟨(some 4), .mv (.k (.c .nil)), none⟩])
  (.seq (.reg [⟨(some 7), .mv (.t 1), none⟩,
    ⟨(some 8), .call 52 [(.t 7)] none, none⟩,
    ⟨(some 9), .make 1 24 (.sl []) (.t 8) (.t 8), none⟩,
    ⟨(some 5), .mv (.t 9), none⟩])
  (.seq (.seq (.reg [⟨(some 10), .mv (.t 5), none⟩,
    ⟨(some 11), .len (.t 10), none⟩,
    ⟨(some 12), .mv (.k (.c (.d (.int .i64 0)))), none⟩])
  (.block 0 (.loop lp_nlvs_0)))
  (.seq (.reg [⟨(some 25), .mv (.t 5), none⟩,
    ⟨(some 4), .mv (.t 25), none⟩])
  (.ret)))),
  [(4, none)]⟩
theorem cf_nlvs : compFn Tryd.prog { own := [], comp := [], frz := [], nils := [] } Tryd.f60 = some sf_nlvs := by kernel_rfl
set_option maxHeartbeats 1600000 in
theorem nlvs_f (G : Glob) (hF : G.at 0 = some (.ra (firstK.map wD))) (hG : G.at 1 = some (.ra (constK.map wD))) (seed : List UInt8) (h : Nat) (hs : seed.length = 32) (hh : h ≤ 6) : Den Tryd.prog G 60 [.sl (seed.map bD), .int .i64 (h : Int)] (.w (.c (.fr 1 ((lvsM seed h).map fun l => D.sl (l.map bD))))) := by
  refine den_walk Tryd.func60 cf_nlvs rfl rfl ?_
  have h64 := pow6 hh
  have hz := nsz_c G h hh
  have hV : lvsM seed h = lvsN seed (2 ^ h) := rfl
  rw [hV]
  generalize 2 ^ h = N at *
  simp only [sf_nlvs, putAll, wx, wy, wz, stV, seval, IntWalk.iteOmega, IntWalk.toNatUp, reduceCtorEq]
  refine st_call (hz) rfl (.inl rfl) ?_
  simp only [wx, wy, wz, stV, seval, IntWalk.iteOmega, IntWalk.toNatUp, reduceCtorEq]
  have hr : List.replicate N (D.sl []) = (List.replicate N ([] : List UInt8)).map fun l => D.sl (l.map bD) := by rw [List.map_replicate]; rfl
  refine loop_st (nlvSt seed N) (fun j => N - j) (fun j => j ≤ N) 0 (Nat.zero_le _) ?_ ?_
  · refine ent_l (fun _ => 72) ?_ ?_ rfl rfl <;> simp only [wx, wex, wez, stV, seval, IntWalk.iteOmega, IntWalk.toNatUp, reduceCtorEq, hr, lvsN, List.range_zero, List.map_nil, List.nil_append, Nat.sub_zero]
  · intro j hj
    have hl := lvsN_len seed j
    by_cases hlt : j < N
    · have hp := pub_c G hF hG seed (j : Int)
      rw [(pubV_ok hs (by omega)).1, (pubV_ok hs (by omega)).2] at hp
      have hset := lvs_set seed hlt
      have hset2 : ((lvsN seed j ++ List.replicate (N - j) []).map fun l : List UInt8 => D.sl (l.map bD)).set j (.sl ((pubM seed j).map bD)) = (lvsN seed (j + 1) ++ List.replicate (N - (j + 1)) []).map fun l : List UInt8 => D.sl (l.map bD) := by rw [← hset, List.map_set]
      generalize pubM seed j = x at *
      have hln : (lvsN seed j ++ List.replicate (N - j) ([] : List UInt8)).length = N := by rw [List.length_append, List.length_replicate, hl]; omega
      have g1 : (lvsN seed j ++ List.replicate (N - j) ([] : List UInt8))[j]? = some [] := by
        rw [List.getElem?_append_right (by omega), hl, Nat.sub_self, List.getElem?_replicate, if_pos (by omega)]
      simp only [lp_nlvs_0, nlvSt, wx, wy, wz, stV, seval, IntWalk.iteOmega, IntWalk.toNatUp, reduceCtorEq]
      refine st_call (hp) rfl (.inl rfl) ?_
      simp only [hln, get_map, g1, hset2, wx, wy, wz, stV, seval, IntWalk.iteOmega, IntWalk.toNatUp, reduceCtorEq]
      refine lop_next (j + 1) (by omega) (by omega) (ent_l (fun i => i) ?_ ?_ rfl rfl) <;> simp only [wx, wex, wez, stV, seval, IntWalk.iteOmega, IntWalk.toNatUp, reduceCtorEq]
    · obtain rfl : j = N := by omega
      have hln : lvsN seed j ++ List.replicate (j - j) ([] : List UInt8) = lvsN seed j := by rw [Nat.sub_self]; simp
      simp only [lp_nlvs_0, nlvSt, wx, wy, wz, stV, seval, IntWalk.iteOmega, IntWalk.toNatUp, reduceCtorEq, hln]
      exact ret_f1 (by simp only [wx, wy, wz, stV, seval, IntWalk.iteOmega, IntWalk.toNatUp, reduceCtorEq, hl])
theorem nlvs_c (G : Glob) (hF : G.at 0 = some (.ra (firstK.map wD))) (hG : G.at 1 = some (.ra (constK.map wD))) (seed : List UInt8) (h : Nat) (hs : seed.length = 32) (hh : h ≤ 6) : Den Tryd.prog G 60 [.sl (seed.map bD), .int .i64 (h : Int)] (.w (.c (.d (sls (lvsM seed h))))) := den_ro (nlvs_f G hF hG seed h hs hh)
theorem rootV_ok {seed : List UInt8} {h : Nat} (hh : h ≤ 6) : rootV (lvsM seed h) = rootM (lvsM seed h) ∧ rootE (lvsM seed h) = 0 := by
  have h64 := pow6 hh
  have hl := lvsM_len seed h
  unfold rootV rootE
  rw [if_neg (by omega), if_neg (by omega)]
  exact ⟨rfl, rfl⟩
theorem lvs_big {seed : List UInt8} {h : Nat} (hh : h ≤ 6) : (lvsM seed h).length ≤ 9223372036854775807 ∧ ∀ x ∈ lvsM seed h, x.length ≤ 1000000000 := by
  have h64 := pow6 hh
  have hl := lvsM_len seed h
  exact ⟨by omega, fun x hx => by rw [lvsN_mem x hx]; decide⟩
def sf_npub : SFn := ⟨2, 19,
  .seq (.reg [⟨(some 4), .mv (.k (.c .nil)), none⟩,
    ⟨(some 5), .mv (.k (.c (.d (.int .i64 0)))), none⟩])
  (.seq (.seq (.reg [⟨(some 7), .mv (.t 0), none⟩,
    ⟨(some 8), .mv (.t 1), none⟩,
    ⟨(some 9), .call 53 [(.t 7), (.t 8)] none, none⟩,
    ⟨(some 6), .mv (.t 9), none⟩])
  (.seq (.reg [⟨(some 10), .mv (.t 6), none⟩,
    ⟨(some 11), .bin .neq (.t 10) (.k (.c (.d (.int .i64 0)))), none⟩])
  (.cond (.t 11) (.seq (.reg [⟨(some 12), .mv (.t 6), none⟩,
     ⟨(some 4), .mv (.k (.c .nil)), none⟩,
     ⟨(some 5), .mv (.t 12), none⟩])
   (.ret))
   (.skip))))
  (.seq (.reg [⟨(some 13), .mv (.t 0), none⟩,
    ⟨(some 14), .mv (.t 1), none⟩,
    ⟨(some 15), .call 60 [(.t 13), (.t 14)] none, none⟩,
    ⟨(some 16), .call 30 [(.t 15)] (some (0, 1)), none⟩,
    ⟨(some 17), .extract (.t 16) 0, none⟩,
    ⟨(some 18), .extract (.t 16) 1, none⟩,
    ⟨(some 4), .mv (.t 17), none⟩,
    ⟨(some 5), .mv (.t 18), none⟩])
  (.ret))),
  [(4, none), (5, none)]⟩
theorem cf_npub : compFn Tryd.prog { own := [], comp := [(16, 0)], frz := [], nils := [] } Tryd.f26 = some sf_npub := by kernel_rfl
set_option maxHeartbeats 1600000 in
theorem npub_f (G : Glob) (hF : G.at 0 = some (.ra (firstK.map wD))) (hG : G.at 1 = some (.ra (constK.map wD))) (seed : List UInt8) (h : Int) : Den Tryd.prog G 26 [.sl (seed.map bD), .int .i64 h] (.tup [.c (.fr 1 ((spubV seed h).map bD)), .c (.d (.int .i64 (sckE seed h)))]) := by
  refine den_walk Tryd.func26 cf_npub rfl rfl ?_
  have hk := nchk_c G seed h
  unfold spubV
  by_cases e : sckE seed h = 0
  · obtain ⟨k1, k2, k3⟩ := sckE_ok e
    obtain ⟨m, rfl⟩ := Int.eq_ofNat_of_zero_le k2
    have et : ((m : Int).toNat) = m := rfl
    rw [e] at hk
    rw [if_pos e, e, et]
    have hl := nlvs_c G hF hG seed m k1 (by omega)
    have hr := root_f G hF hG (lvsM seed m) (lvs_big (by omega)).1 (lvs_big (by omega)).2
    rw [(rootV_ok (by omega)).1, (rootV_ok (by omega)).2] at hr
    generalize rootM (lvsM seed m) = z at *
    simp only [sf_npub, putAll, wx, wy, wz, stV, seval, IntWalk.iteOmega, IntWalk.toNatUp, reduceCtorEq]
    refine st_call (hk) rfl (.inl rfl) ?_
    simp only [wx, wy, wz, stV, seval, IntWalk.iteOmega, IntWalk.toNatUp, reduceCtorEq]
    refine st_call (hl) rfl (.inl rfl) ?_
    simp only [wx, wy, wz, stV, seval, IntWalk.iteOmega, IntWalk.toNatUp, reduceCtorEq]
    refine st_call (hr) rfl (.inl rfl) ?_
    simp only [wx, wy, wz, stV, seval, IntWalk.iteOmega, IntWalk.toNatUp, reduceCtorEq]
    exact ret_f2 (by simp only [wx, wy, wz, stV, seval, IntWalk.iteOmega, IntWalk.toNatUp, reduceCtorEq]) (by simp only [wx, wy, wz, stV, seval, IntWalk.iteOmega, IntWalk.toNatUp, reduceCtorEq])
  · rw [if_neg e]
    generalize sckE seed h = x at *
    simp only [sf_npub, putAll, wx, wy, wz, stV, seval, IntWalk.iteOmega, IntWalk.toNatUp, reduceCtorEq]
    refine st_call (hk) rfl (.inl rfl) ?_
    simp only [wx, wy, wz, stV, seval, IntWalk.iteOmega, IntWalk.toNatUp, reduceCtorEq]
    exact ret_f2 (by simp only [wx, wy, wz, stV, seval, IntWalk.iteOmega, IntWalk.toNatUp, reduceCtorEq]) (by simp only [wx, wy, wz, stV, seval, IntWalk.iteOmega, IntWalk.toNatUp, reduceCtorEq])
theorem npub_c (G : Glob) (hF : G.at 0 = some (.ra (firstK.map wD))) (hG : G.at 1 = some (.ra (constK.map wD))) (seed : List UInt8) (h : Int) : Den Tryd.prog G 26 [.sl (seed.map bD), .int .i64 h] (.tup [.c (.d (.sl ((spubV seed h).map bD))), .c (.d (.int .i64 (sckE seed h)))]) := den_ro2 (npub_f G hF hG seed h)
/-! ### Heads -/
abbrev hedD (h n : Int) : D := .agg [.int .i64 h, .int .i64 n]
def sf_hnm : SFn := ⟨1, 7,
  .seq (.reg [⟨(some 1), .box .roBox (.t 0), none⟩,
    ⟨(some 2), .mv (.k (.c .nil)), none⟩])
  (.seq (.reg [⟨(some 3), .fieldAddr 1 (.t 1), none⟩,
    ⟨(some 4), .load .sc (.t 3), none⟩,
    ⟨(some 5), .conv .u64 (.t 4), none⟩,
    ⟨(some 6), .call 75 [(.t 5), (.k (.c (.d (.int .i64 4))))] (some (0, 1)), none⟩,
    ⟨(some 2), .mv (.t 6), none⟩])
  (.ret)),
  [(2, none)]⟩
theorem cf_hnm : compFn Tryd.prog { own := [6], comp := [], frz := [], nils := [] } Tryd.f96 = some sf_hnm := by kernel_rfl
theorem hnm_f (G : Glob) (h : Int) (n : Nat) (hn : n ≤ 9223372036854775807) : Den Tryd.prog G 96 [hedD h (n : Int)] (.w (.c (.fr 1 ((putL n 4).map bD)))) := by
  refine den_walk Tryd.func96 cf_hnm rfl rfl ?_
  have w1 : IntKind.u64.wrap (n : Int) = (n : Int) := by rw [IntKind.wrap_u64]; omega
  simp only [sf_hnm, putAll, wx, wy, wz, stV, seval, IntWalk.iteOmega, IntWalk.toNatUp, reduceCtorEq, w1]
  refine st_call (put_in G n 4 (by decide)) rfl (.inl rfl) ?_
  simp only [wx, wy, wz, stV, seval, IntWalk.iteOmega, IntWalk.toNatUp, reduceCtorEq]
  exact ret_f1 (by simp only [wx, wy, wz, stV, seval, IntWalk.iteOmega, IntWalk.toNatUp, reduceCtorEq, putL_length])
theorem hnm_c (G : Glob) (h : Int) (n : Nat) (hn : n ≤ 9223372036854775807) : Den Tryd.prog G 96 [hedD h (n : Int)] (.w (.c (.d (.sl ((putL n 4).map bD))))) := den_ro (hnm_f G h n hn)
def sf_hfs : SFn := ⟨1, 11,
  .seq (.reg [⟨(some 1), .box .roBox (.t 0), none⟩,
    ⟨(some 2), .mv (.k (.c .nil)), none⟩])
  (.seq (.reg [⟨(some 3), .fieldAddr 0 (.t 1), none⟩,
    ⟨(some 4), .load .sc (.t 3), none⟩,
    ⟨(some 5), .conv .u64 (.t 4), none⟩,
    ⟨(some 6), .call 75 [(.t 5), (.k (.c (.d (.int .i64 1))))] none, none⟩,
    ⟨(some 7), .load (.ag 2) (.t 1), none⟩,
    ⟨(some 8), .call 96 [(.t 7)] none, none⟩,
    ⟨(some 9), .bldSl false 2 1 (.sl []) [(0, (.t 6)), (1, (.t 8))], none⟩,
    ⟨(some 10), .call 43 [(.t 9)] (some (0, 1)), none⟩,
    ⟨(some 2), .mv (.t 10), none⟩])
  (.ret)),
  [(2, none)]⟩
theorem cf_hfs : compFn Tryd.prog { own := [10], comp := [], frz := [], nils := [] } Tryd.f79 = some sf_hfs := by kernel_rfl
theorem hfs_f (G : Glob) (h n : Nat) (hh : h ≤ 6) (hn : n ≤ 9223372036854775807) : Den Tryd.prog G 79 [hedD (h : Int) (n : Int)] (.w (.c (.fr 1 (([UInt8.ofNat h] ++ putL n 4).map bD)))) := by
  refine den_walk Tryd.func79 cf_hfs rfl rfl ?_
  have w1 : IntKind.u64.wrap (h : Int) = (h : Int) := by rw [IntKind.wrap_u64]; omega
  have hp := put_in G h 1 (by decide)
  have hj := join_c G [putL h 1, putL n 4] (by simp) (by simp [putL_length])
  have hf : [putL h 1, putL n 4].flatten = [UInt8.ofNat h] ++ putL n 4 := by rw [putL_1]; simp
  rw [hf] at hj
  have hl : ([UInt8.ofNat h] ++ putL n 4).length = 5 := by rw [List.length_append, putL_length]; rfl
  generalize [UInt8.ofNat h] ++ putL n 4 = z at *
  simp only [sf_hfs, putAll, wx, wy, wz, stV, seval, IntWalk.iteOmega, IntWalk.toNatUp, reduceCtorEq, w1]
  refine st_call (hp) rfl (.inl rfl) ?_
  simp only [wx, wy, wz, stV, seval, IntWalk.iteOmega, IntWalk.toNatUp, reduceCtorEq]
  refine st_call (hnm_c G (h : Int) n hn) rfl (.inl rfl) ?_
  simp only [wx, wy, wz, stV, seval, IntWalk.iteOmega, IntWalk.toNatUp, reduceCtorEq]
  refine st_call (hj) rfl (.inl rfl) ?_
  simp only [wx, wy, wz, stV, seval, IntWalk.iteOmega, IntWalk.toNatUp, reduceCtorEq]
  exact ret_f1 (by simp only [wx, wy, wz, stV, seval, IntWalk.iteOmega, IntWalk.toNatUp, reduceCtorEq, hl])
theorem hfs_c (G : Glob) (h n : Nat) (hh : h ≤ 6) (hn : n ≤ 9223372036854775807) : Den Tryd.prog G 79 [hedD (h : Int) (n : Int)] (.w (.c (.d (.sl (([UInt8.ofNat h] ++ putL n 4).map bD))))) := den_ro (hfs_f G h n hh hn)
def sf_hdg : SFn := ⟨3, 14,
  .seq (.reg [⟨(some 3), .box .roBox (.t 0), none⟩,
    ⟨(some 6), .mv (.k (.c .nil)), none⟩])
  (.seq (.reg [⟨(some 7), .mv (.t 1), none⟩,
    ⟨(some 8), .load (.ag 2) (.t 3), none⟩,
    ⟨(some 9), .call 96 [(.t 8)] none, none⟩,
    ⟨(some 10), .mv (.t 2), none⟩,
    ⟨(some 11), .bldSl false 3 1 (.sl []) [(0, (.t 7)), (1, (.t 9)), (2, (.t 10))], none⟩,
    ⟨(some 12), .call 43 [(.t 11)] none, none⟩,
    ⟨(some 13), .call 95 [(.t 12)] (some (0, 1)), none⟩,
    ⟨(some 6), .mv (.t 13), none⟩])
  (.ret)),
  [(6, none)]⟩
theorem cf_hdg : compFn Tryd.prog { own := [13], comp := [], frz := [], nils := [] } Tryd.f57 = some sf_hdg := by kernel_rfl
theorem hdg_f (G : Glob) (hF : G.at 0 = some (.ra (firstK.map wD))) (hG : G.at 1 = some (.ra (constK.map wD))) (h : Int) (n : Nat) (pub msg : List UInt8) (hn : n ≤ 9223372036854775807) (hp : pub.length ≤ 1000000000) (hm : msg.length ≤ 1000000000) : Den Tryd.prog G 57 [hedD h (n : Int), .sl (pub.map bD), .sl (msg.map bD)] (.w (.c (.fr 1 ((sdig pub n msg).map bD)))) := by
  refine den_walk Tryd.func57 cf_hdg rfl rfl ?_
  have hj := join_c G [pub, putL n 4, msg] (by simp) (by simp [putL_length]; omega)
  have hf : [pub, putL n 4, msg].flatten = pub ++ putL n 4 ++ msg := by simp
  rw [hf] at hj
  have hs := short_c G hF hG (pub ++ putL n 4 ++ msg) (by simp [putL_length]; omega)
  have hd : shortK (pub ++ putL n 4 ++ msg) = sdig pub n msg := rfl
  rw [hd] at hs
  have hl := sdig_len pub n msg
  generalize sdig pub n msg = y at *
  generalize pub ++ putL n 4 ++ msg = z at *
  simp only [sf_hdg, putAll, wx, wy, wz, stV, seval, IntWalk.iteOmega, IntWalk.toNatUp, reduceCtorEq]
  refine st_call (hnm_c G h n hn) rfl (.inl rfl) ?_
  simp only [wx, wy, wz, stV, seval, IntWalk.iteOmega, IntWalk.toNatUp, reduceCtorEq]
  refine st_call (hj) rfl (.inl rfl) ?_
  simp only [wx, wy, wz, stV, seval, IntWalk.iteOmega, IntWalk.toNatUp, reduceCtorEq]
  refine st_call (hs) rfl (.inl rfl) ?_
  simp only [wx, wy, wz, stV, seval, IntWalk.iteOmega, IntWalk.toNatUp, reduceCtorEq]
  exact ret_f1 (by simp only [wx, wy, wz, stV, seval, IntWalk.iteOmega, IntWalk.toNatUp, reduceCtorEq, hl])
theorem hdg_c (G : Glob) (hF : G.at 0 = some (.ra (firstK.map wD))) (hG : G.at 1 = some (.ra (constK.map wD))) (h : Int) (n : Nat) (pub msg : List UInt8) (hn : n ≤ 9223372036854775807) (hp : pub.length ≤ 1000000000) (hm : msg.length ≤ 1000000000) : Den Tryd.prog G 57 [hedD h (n : Int), .sl (pub.map bD), .sl (msg.map bD)] (.w (.c (.d (.sl ((sdig pub n msg).map bD))))) := den_ro (hdg_f G hF hG h n pub msg hn hp hm)
end Go.Proofs.YtjgkchmdhicmpaaDoor
set_option linter.unusedVariables false
set_option linter.unusedSimpArgs false
namespace Go.Proofs.YtjgkchmdhicmpaaDoor
open Go.RowKit

abbrev sgtD (h n : Int) (e p : List (List UInt8)) : D := .agg [.int .i64 h, .int .i64 n, sls e, sls p]
def sf_gby : SFn := ⟨1, 14,
  .seq (.reg [⟨(some 1), .box .roBox (.t 0), none⟩,
    ⟨(some 2), .mv (.k (.c .nil)), none⟩])
  (.seq (.reg [⟨(some 3), .fieldAddr 0 (.t 1), none⟩,
    ⟨(some 4), .load (.ag 2) (.t 3), none⟩,
    ⟨(some 5), .call 79 [(.t 4)] none, none⟩,
    ⟨(some 6), .fieldAddr 2 (.t 1), none⟩,
    ⟨(some 7), .load .sc (.t 6), none⟩,
    ⟨(some 8), .call 43 [(.t 7)] none, none⟩,
    ⟨(some 9), .fieldAddr 3 (.t 1), none⟩,
    ⟨(some 10), .load .sc (.t 9), none⟩,
    ⟨(some 11), .call 43 [(.t 10)] none, none⟩,
    ⟨(some 12), .bldSl false 3 1 (.sl []) [(0, (.t 5)), (1, (.t 8)), (2, (.t 11))], none⟩,
    ⟨(some 13), .call 43 [(.t 12)] (some (0, 1)), none⟩,
    ⟨(some 2), .mv (.t 13), none⟩])
  (.ret)),
  [(2, none)]⟩
theorem cf_gby : compFn Tryd.prog { own := [13], comp := [], frz := [], nils := [] } Tryd.f45 = some sf_gby := by kernel_rfl
set_option maxHeartbeats 1600000 in
theorem gby_f (G : Glob) (h n : Nat) (e p : List (List UInt8)) (hh : h ≤ 6) (hn : n ≤ 9223372036854775807) (he : e.length ≤ 1000) (he2 : ∀ x ∈ e, x.length = 16) (hp : p.length ≤ 1000) (hp2 : ∀ x ∈ p, x.length = 32) : Den Tryd.prog G 45 [sgtD (h : Int) (n : Int) e p] (.w (.c (.fr 1 ((sgB h n e p).map bD)))) := by
  refine den_walk Tryd.func45 cf_gby rfl rfl ?_
  have l1 := cutf_len he2
  have l2 := cutf_len hp2
  have h1 := hfs_c G h n hh hn
  have hl : ([UInt8.ofNat h] ++ putL n 4).length = 5 := by rw [List.length_append, putL_length]; rfl
  have hj1 := join_c G e (by omega) (by omega)
  have hj2 := join_c G p (by omega) (by omega)
  have hj := join_c G [[UInt8.ofNat h] ++ putL n 4, e.flatten, p.flatten] (by simp) (by simp only [List.flatten_cons, List.flatten_nil, List.length_append, List.append_nil, l1, l2, putL_length, List.length_singleton]; omega)
  have hf : [[UInt8.ofNat h] ++ putL n 4, e.flatten, p.flatten].flatten = sgB h n e p := by unfold sgB; simp
  rw [hf] at hj
  have hL : (sgB h n e p).length ≤ 1000000 := by
    unfold sgB
    simp only [List.length_append, l1, l2, putL_length, List.length_singleton]; omega
  generalize sgB h n e p = z at *
  generalize [UInt8.ofNat h] ++ putL n 4 = z1 at *
  generalize e.flatten = z2 at *
  generalize p.flatten = z3 at *
  simp only [sf_gby, putAll, wx, wy, wz, stV, seval, IntWalk.iteOmega, IntWalk.toNatUp, reduceCtorEq]
  refine st_call (h1) rfl (.inl rfl) ?_
  simp only [wx, wy, wz, stV, seval, IntWalk.iteOmega, IntWalk.toNatUp, reduceCtorEq]
  refine st_call (hj1) rfl (.inl rfl) ?_
  simp only [wx, wy, wz, stV, seval, IntWalk.iteOmega, IntWalk.toNatUp, reduceCtorEq]
  refine st_call (hj2) rfl (.inl rfl) ?_
  simp only [wx, wy, wz, stV, seval, IntWalk.iteOmega, IntWalk.toNatUp, reduceCtorEq]
  refine st_call (hj) rfl (.inl rfl) ?_
  simp only [wx, wy, wz, stV, seval, IntWalk.iteOmega, IntWalk.toNatUp, reduceCtorEq]
  exact ret_f1 (by simp only [wx, wy, wz, stV, seval, IntWalk.iteOmega, IntWalk.toNatUp, reduceCtorEq])
theorem gby_c (G : Glob) (h n : Nat) (e p : List (List UInt8)) (hh : h ≤ 6) (hn : n ≤ 9223372036854775807) (he : e.length ≤ 1000) (he2 : ∀ x ∈ e, x.length = 16) (hp : p.length ≤ 1000) (hp2 : ∀ x ∈ p, x.length = 32) : Den Tryd.prog G 45 [sgtD (h : Int) (n : Int) e p] (.w (.c (.d (.sl ((sgB h n e p).map bD))))) := den_ro (gby_f G h n e p hh hn he he2 hp hp2)
theorem spath_ok {seed : List UInt8} {h n : Nat} (hh : h ≤ 6) (hn : n < 2 ^ h) : pathV (lvsM seed h) (n : Int) = pathM (lvsM seed h) n ∧ pathE (lvsM seed h) (n : Int) = 0 := by
  have h64 := pow6 hh
  have hl := lvsM_len seed h
  have hE : pathE (lvsM seed h) (n : Int) = 0 := by
    unfold pathE
    rw [if_neg (by omega), if_neg (by omega)]
  exact ⟨if_pos hE, hE⟩
theorem ssig_ok {seed d : List UInt8} {n : Nat} (hs : seed.length = 32) (hn : n ≤ 2147483647) (hd : d.length = 16) : sigV seed (n : Int) d = sigM seed n d ∧ sigE seed (n : Int) d = 0 := by
  have hk : chkE seed (n : Int) = 0 := by unfold chkE; rw [if_neg (by omega), if_neg (by omega)]
  exact ⟨(sigE_ok hk hd).2, (sigE_ok hk hd).1⟩
def sf_nsgd : SFn := ⟨2, 51,
  .seq (.reg [⟨(some 2), .box .roBox (.t 0), none⟩,
    ⟨(some 4), .alloc [(.d (.int .i64 0)), (.d (.int .i64 0)), .nil, .nil], none⟩])
  (.seq (.reg [⟨(some 13), .fieldAddr 1 (.t 2), none⟩,
    ⟨(some 14), .load .sc (.t 13), none⟩,
    ⟨(some 15), .fieldAddr 2 (.t 2), none⟩,
    ⟨(some 16), .load .sc (.t 15), none⟩,
    ⟨(some 17), .build [(.d (.int .i64 0)), (.d (.int .i64 0))] [(0, 1, (.t 14)), (1, 1, (.t 16))], none⟩,
    ⟨(some 5), .alloc [(.d (.int .i64 0)), (.d (.int .i64 0))], none⟩,
    ⟨none, .store (.ag 2) (.t 5) (.t 17), none⟩])
  (.seq (.reg [⟨(some 18), .fieldAddr 0 (.t 2), none⟩,
    ⟨(some 19), .load .sc (.t 18), none⟩,
    ⟨(some 20), .fieldAddr 1 (.t 2), none⟩,
    ⟨(some 21), .load .sc (.t 20), none⟩,
    ⟨(some 22), .call 60 [(.t 19), (.t 21)] none, none⟩,
    ⟨(some 6), .mv (.t 22), none⟩])
  (.seq (.reg [⟨(some 24), .mv (.t 6), none⟩,
    ⟨(some 25), .call 30 [(.t 24)] none, none⟩,
    ⟨(some 23), .mv (.t 25), none⟩,
    ⟨(some 26), .extract (.t 23) 0, none⟩,
    ⟨(some 27), .extract (.t 23) 1, none⟩,
    ⟨(some 7), .mv (.t 26), none⟩,
    ⟨(some 8), .mv (.t 27), none⟩])
  (.seq (.reg [⟨(some 29), .mv (.t 6), none⟩,
    ⟨(some 30), .fieldAddr 2 (.t 2), none⟩,
    ⟨(some 31), .load .sc (.t 30), none⟩,
    ⟨(some 32), .call 31 [(.t 29), (.t 31)] none, none⟩,
    ⟨(some 28), .mv (.t 32), none⟩,
    ⟨(some 33), .extract (.t 28) 0, none⟩,
    ⟨(some 34), .extract (.t 28) 1, none⟩,
    ⟨(some 9), .mv (.t 33), none⟩,
    ⟨(some 10), .mv (.t 34), none⟩])
  (.seq (.reg [⟨(some 36), .fieldAddr 0 (.t 2), none⟩,
    ⟨(some 37), .load .sc (.t 36), none⟩,
    ⟨(some 38), .fieldAddr 2 (.t 2), none⟩,
    ⟨(some 39), .load .sc (.t 38), none⟩,
    ⟨(some 40), .load (.ag 2) (.t 5), none⟩,
    ⟨(some 41), .mv (.t 7), none⟩,
    ⟨(some 42), .mv (.t 1), none⟩,
    ⟨(some 43), .call 57 [(.t 40), (.t 41), (.t 42)] none, none⟩,
    ⟨(some 44), .call 78 [(.t 37), (.t 39), (.t 43)] none, none⟩,
    ⟨(some 35), .mv (.t 44), none⟩,
    ⟨(some 45), .extract (.t 35) 0, none⟩,
    ⟨(some 46), .extract (.t 35) 1, none⟩,
    ⟨(some 11), .mv (.t 45), none⟩,
    ⟨(some 12), .mv (.t 46), none⟩])
  (.seq (.reg [⟨(some 47), .load (.ag 2) (.t 5), none⟩,
    ⟨(some 48), .mv (.t 11), none⟩,
    ⟨(some 49), .mv (.t 9), none⟩,
    ⟨(some 50), .build [(.d (.int .i64 0)), (.d (.int .i64 0)), .nil, .nil] [(0, 2, (.t 47)), (2, 1, (.t 48)), (3, 1, (.t 49))], none⟩,
    ⟨none, .store (.ag 4) (.t 4) (.t 50), none⟩])
  (.ret))))))),
  [(4, (some (.ag 4)))]⟩
theorem cf_nsgd : compFn Tryd.prog { own := [], comp := [], frz := [], nils := [] } Tryd.f44 = some sf_nsgd := by kernel_rfl
set_option maxHeartbeats 1600000 in
theorem nsgd_c (G : Glob) (hF : G.at 0 = some (.ra (firstK.map wD))) (hG : G.at 1 = some (.ra (constK.map wD))) (seed : List UInt8) (h n : Nat) (msg : List UInt8) (hs : seed.length = 32) (hh : h ≤ 6) (hn : n < 2 ^ h) (hm : msg.length ≤ 65535) : Den Tryd.prog G 44 [keyD seed (h : Int) (n : Int), .sl (msg.map bD)] (.w (.c (.d (sgtD (h : Int) (n : Int) (sigM seed n (sdig (rootM (lvsM seed h)) n msg)) (pathM (lvsM seed h) n))))) := by
  refine den_walk Tryd.func44 cf_nsgd rfl rfl ?_
  have h64 := pow6 hh
  have h1 := nlvs_c G hF hG seed h hs hh
  have h2 := root_c G hF hG (lvsM seed h) (lvs_big hh).1 (lvs_big hh).2
  rw [(rootV_ok hh).1, (rootV_ok hh).2] at h2
  have h3 := path_c G hF hG (lvsM seed h) (n : Int) (lvs_big hh).1 (lvs_big hh).2
  rw [(spath_ok hh hn).1, (spath_ok hh hn).2] at h3
  have hr := root_32 (lvsM seed h)
  have h4 := hdg_c G hF hG (h : Int) n (rootM (lvsM seed h)) msg (by omega) (by omega) (by omega)
  have hd := sdig_len (rootM (lvsM seed h)) n msg
  have h5 := sgn_c G hF hG seed (n : Int) (sdig (rootM (lvsM seed h)) n msg) (by omega)
  rw [(ssig_ok hs (by omega) hd).1, (ssig_ok hs (by omega) hd).2] at h5
  generalize sigM seed n (sdig (rootM (lvsM seed h)) n msg) = e at *
  generalize sdig (rootM (lvsM seed h)) n msg = d at *
  generalize pathM (lvsM seed h) n = p at *
  generalize rootM (lvsM seed h) = r at *
  generalize lvsM seed h = l at *
  simp only [sf_nsgd, putAll, wx, wy, wz, stV, seval, IntWalk.iteOmega, IntWalk.toNatUp, reduceCtorEq]
  refine st_call (h1) rfl (.inl rfl) ?_
  simp only [wx, wy, wz, stV, seval, IntWalk.iteOmega, IntWalk.toNatUp, reduceCtorEq]
  refine st_call (h2) rfl (.inl rfl) ?_
  simp only [wx, wy, wz, stV, seval, IntWalk.iteOmega, IntWalk.toNatUp, reduceCtorEq]
  refine st_call (h3) rfl (.inl rfl) ?_
  simp only [wx, wy, wz, stV, seval, IntWalk.iteOmega, IntWalk.toNatUp, reduceCtorEq]
  refine st_call (h4) rfl (.inl rfl) ?_
  simp only [wx, wy, wz, stV, seval, IntWalk.iteOmega, IntWalk.toNatUp, reduceCtorEq]
  refine st_call (h5) rfl (.inl rfl) ?_
  simp only [wx, wy, wz, stV, seval, IntWalk.iteOmega, IntWalk.toNatUp, reduceCtorEq]
  exact ret_d1 (by simp only [wx, wy, wz, stV, seval, IntWalk.iteOmega, IntWalk.toNatUp, reduceCtorEq])
def sgS (seed : List UInt8) (h n : Int) (msg : List UInt8) : D := if sgE seed h n msg = 0 then keyD seed h (n + 1) else keyD [] 0 0
def sgV' (seed : List UInt8) (h n : Int) (msg : List UInt8) : List UInt8 := if sgE seed h n msg = 0 then sgM seed h.toNat n.toNat msg else []
def sf_nsgn : SFn := ⟨2, 41,
  .seq (.reg [⟨(some 2), .box .roBox (.t 0), none⟩,
    ⟨(some 4), .alloc [.nil, (.d (.int .i64 0)), (.d (.int .i64 0))], none⟩,
    ⟨(some 5), .mv (.k (.c .nil)), none⟩,
    ⟨(some 6), .mv (.k (.c (.d (.int .i64 0)))), none⟩])
  (.seq (.reg [⟨(some 11), .load (.ag 3) (.t 2), none⟩,
    ⟨(some 12), .call 14 [(.t 11)] none, none⟩,
    ⟨(some 10), .mv (.t 12), none⟩,
    ⟨(some 13), .extract (.t 10) 0, none⟩,
    ⟨(some 14), .extract (.t 10) 1, none⟩,
    ⟨(some 7), .mv (.t 13), none⟩,
    ⟨(some 8), .mv (.t 14), none⟩])
  (.seq (.seq (.reg [⟨(some 15), .mv (.t 8), none⟩,
    ⟨(some 16), .bin .neq (.t 15) (.k (.c (.d (.int .i64 0)))), none⟩])
  (.cond (.t 16) (.seq (.reg [⟨(some 17), .build [.nil, (.d (.int .i64 0)), (.d (.int .i64 0))] [], none⟩,
     ⟨(some 18), .mv (.t 8), none⟩,
     ⟨none, .store (.ag 3) (.t 4) (.t 17), none⟩,
     ⟨(some 5), .mv (.k (.c .nil)), none⟩,
     ⟨(some 6), .mv (.t 18), none⟩])
   (.ret))
   (.skip)))
  (.seq (.seq (.reg [⟨(some 19), .mv (.t 7), none⟩,
    ⟨(some 20), .bin .eql (.t 19) (.k (.c (.d (.int .i64 0)))), none⟩])
  (.cond (.t 20) (.seq (.reg [⟨(some 21), .build [.nil, (.d (.int .i64 0)), (.d (.int .i64 0))] [], none⟩,
     ⟨none, .store (.ag 3) (.t 4) (.t 21), none⟩,
     ⟨(some 5), .mv (.k (.c .nil)), none⟩,
     ⟨(some 6), .mv (.k (.c (.d (.int .i64 7)))), none⟩])
   (.ret))
   (.skip)))
  (.seq (.seq (.reg [⟨(some 22), .mv (.t 1), none⟩,
    ⟨(some 23), .len (.t 22), none⟩,
    ⟨(some 24), .bin .gtr (.t 23) (.k (.c (.d (.int .i64 65535)))), none⟩])
  (.cond (.t 24) (.seq (.reg [⟨(some 25), .build [.nil, (.d (.int .i64 0)), (.d (.int .i64 0))] [], none⟩,
     ⟨none, .store (.ag 3) (.t 4) (.t 25), none⟩,
     ⟨(some 5), .mv (.k (.c .nil)), none⟩,
     ⟨(some 6), .mv (.k (.c (.d (.int .i64 2)))), none⟩])
   (.ret))
   (.skip)))
  (.seq (.reg [⟨(some 26), .fieldAddr 0 (.t 2), none⟩,
    ⟨(some 27), .load .sc (.t 26), none⟩,
    ⟨(some 28), .bldSl false 1 1 (.sl []) [(0, (.t 27))], none⟩,
    ⟨(some 29), .call 43 [(.t 28)] none, none⟩,
    ⟨(some 30), .fieldAddr 1 (.t 2), none⟩,
    ⟨(some 31), .load .sc (.t 30), none⟩,
    ⟨(some 32), .fieldAddr 2 (.t 2), none⟩,
    ⟨(some 33), .load .sc (.t 32), none⟩,
    ⟨(some 34), .bin .add (.t 33) (.k (.c (.d (.int .i64 1)))), none⟩,
    ⟨(some 35), .build [.nil, (.d (.int .i64 0)), (.d (.int .i64 0))] [(0, 1, (.t 29)), (1, 1, (.t 31)), (2, 1, (.t 34))], none⟩,
    ⟨(some 9), .alloc [.nil, (.d (.int .i64 0)), (.d (.int .i64 0))], none⟩,
    ⟨none, .store (.ag 3) (.t 9) (.t 35), none⟩])
  (.seq (.reg [⟨(some 36), .load (.ag 3) (.t 9), none⟩,
    ⟨(some 37), .load (.ag 3) (.t 2), none⟩,
    ⟨(some 38), .mv (.t 1), none⟩,
    ⟨(some 39), .call 44 [(.t 37), (.t 38)] none, none⟩,
    ⟨(some 40), .call 45 [(.t 39)] none, none⟩,
    ⟨none, .store (.ag 3) (.t 4) (.t 36), none⟩,
    ⟨(some 5), .mv (.t 40), none⟩,
    ⟨(some 6), .mv (.k (.c (.d (.int .i64 0)))), none⟩])
  (.ret))))))),
  [(4, (some (.ag 3))), (5, none), (6, none)]⟩
theorem cf_nsgn : compFn Tryd.prog { own := [], comp := [], frz := [], nils := [] } Tryd.f12 = some sf_nsgn := by kernel_rfl
set_option maxHeartbeats 1600000 in
theorem nsgn_c (G : Glob) (hF : G.at 0 = some (.ra (firstK.map wD))) (hG : G.at 1 = some (.ra (constK.map wD))) (seed : List UInt8) (h n : Int) (msg : List UInt8) (hm0 : msg.length ≤ 9223372036854775807) : Den Tryd.prog G 12 [keyD seed h n, .sl (msg.map bD)] (.tup [.c (.d (sgS seed h n msg)), .c (.d (.sl ((sgV' seed h n msg).map bD))), .c (.d (.int .i64 (sgE seed h n msg)))]) := by
  refine den_walk Tryd.func12 cf_nsgn rfl rfl ?_
  have hk := nlft_c G seed h n
  unfold sleftV sleftE at hk
  unfold sgS sgV'
  cases e : svalB seed h n
  · have hE : sgE seed h n msg = 3 := by unfold sgE; rw [if_neg (by rw [e]; decide)]
    rw [hE, if_neg (by decide), if_neg (by decide)]
    rw [e, if_neg (by decide), if_neg (by decide)] at hk
    simp only [sf_nsgn, putAll, wx, wy, wz, stV, seval, IntWalk.iteOmega, IntWalk.toNatUp, reduceCtorEq]
    refine st_call (hk) rfl (.inl rfl) ?_
    simp only [wx, wy, wz, stV, seval, IntWalk.iteOmega, IntWalk.toNatUp, reduceCtorEq]
    exact ret_d3 (by simp only [wx, wy, wz, stV, seval, IntWalk.iteOmega, IntWalk.toNatUp, reduceCtorEq] <;> rfl) (by simp only [wx, wy, wz, stV, seval, IntWalk.iteOmega, IntWalk.toNatUp, reduceCtorEq] <;> rfl) (by simp only [wx, wy, wz, stV, seval, IntWalk.iteOmega, IntWalk.toNatUp, reduceCtorEq])
  · obtain ⟨k1, k2, k3, k4, k5⟩ := sval_ok e
    rw [e, if_pos rfl, if_pos rfl] at hk
    obtain ⟨m, rfl⟩ := Int.eq_ofNat_of_zero_le k2
    obtain ⟨i, rfl⟩ := Int.eq_ofNat_of_zero_le k4
    have et : ((m : Int).toNat) = m := rfl
    have ei : ((i : Int).toNat) = i := rfl
    rw [et] at k5 hk
    have h64 := pow6 (h := m) (by omega)
    by_cases h1 : i = 2 ^ m
    · have hE : sgE seed (m : Int) (i : Int) msg = 7 := by unfold sgE; rw [if_pos e, et, if_pos (by omega)]
      rw [hE, if_neg (by decide), if_neg (by decide)]
      have e0 : ((2 ^ m : Nat) : Int) - (i : Int) = 0 := by omega
      rw [e0] at hk
      simp only [sf_nsgn, putAll, wx, wy, wz, stV, seval, IntWalk.iteOmega, IntWalk.toNatUp, reduceCtorEq]
      refine st_call (hk) rfl (.inl rfl) ?_
      simp only [wx, wy, wz, stV, seval, IntWalk.iteOmega, IntWalk.toNatUp, reduceCtorEq]
      exact ret_d3 (by simp only [wx, wy, wz, stV, seval, IntWalk.iteOmega, IntWalk.toNatUp, reduceCtorEq] <;> rfl) (by simp only [wx, wy, wz, stV, seval, IntWalk.iteOmega, IntWalk.toNatUp, reduceCtorEq] <;> rfl) (by simp only [wx, wy, wz, stV, seval, IntWalk.iteOmega, IntWalk.toNatUp, reduceCtorEq])
    · by_cases h2 : 65535 < msg.length
      · have hE : sgE seed (m : Int) (i : Int) msg = 2 := by unfold sgE; rw [if_pos e, et, if_neg (by omega), if_pos h2]
        rw [hE, if_neg (by decide), if_neg (by decide)]
        generalize 2 ^ m = N at *
        simp only [sf_nsgn, putAll, wx, wy, wz, stV, seval, IntWalk.iteOmega, IntWalk.toNatUp, reduceCtorEq]
        refine st_call (hk) rfl (.inl rfl) ?_
        simp only [wx, wy, wz, stV, seval, IntWalk.iteOmega, IntWalk.toNatUp, reduceCtorEq]
        exact ret_d3 (by simp only [wx, wy, wz, stV, seval, IntWalk.iteOmega, IntWalk.toNatUp, reduceCtorEq] <;> rfl) (by simp only [wx, wy, wz, stV, seval, IntWalk.iteOmega, IntWalk.toNatUp, reduceCtorEq] <;> rfl) (by simp only [wx, wy, wz, stV, seval, IntWalk.iteOmega, IntWalk.toNatUp, reduceCtorEq])
      · have hE : sgE seed (m : Int) (i : Int) msg = 0 := by unfold sgE; rw [if_pos e, et, if_neg (by omega), if_neg h2]
        rw [hE, if_pos rfl, if_pos rfl, et, ei]
        have hj := join_c G [seed] (by simp) (by simp; omega)
        have hf : [seed].flatten = seed := by simp
        rw [hf] at hj
        have h5 := nsgd_c G hF hG seed m i msg k1 (by omega) (by omega) (by omega)
        have hpl := spath_len seed (h := m) (n := i) (by omega)
        have h6 := gby_f G m i (sigM seed i (sdig (rootM (lvsM seed m)) i msg)) (pathM (lvsM seed m) i) (by omega) (by omega) (by unfold sigM; rw [sigN_len]; decide) sig_mem (by omega) (path_32 _ _ _ rfl)
        have hg : sgB m i (sigM seed i (sdig (rootM (lvsM seed m)) i msg)) (pathM (lvsM seed m) i) = sgM seed m i msg := rfl
        rw [hg] at h6
        generalize sgM seed m i msg = z at *
        generalize sigM seed i (sdig (rootM (lvsM seed m)) i msg) = z1 at *
        generalize pathM (lvsM seed m) i = z2 at *
        generalize 2 ^ m = N at *
        simp only [sf_nsgn, putAll, wx, wy, wz, stV, seval, IntWalk.iteOmega, IntWalk.toNatUp, reduceCtorEq]
        refine st_call (hk) rfl (.inl rfl) ?_
        simp only [wx, wy, wz, stV, seval, IntWalk.iteOmega, IntWalk.toNatUp, reduceCtorEq]
        refine st_call (hj) rfl (.inl rfl) ?_
        simp only [wx, wy, wz, stV, seval, IntWalk.iteOmega, IntWalk.toNatUp, reduceCtorEq]
        refine st_call (h5) rfl (.inl rfl) ?_
        simp only [wx, wy, wz, stV, seval, IntWalk.iteOmega, IntWalk.toNatUp, reduceCtorEq]
        refine st_call (h6) rfl (.inl rfl) ?_
        simp only [wx, wy, wz, stV, seval, IntWalk.iteOmega, IntWalk.toNatUp, reduceCtorEq]
        exact ret_d3 (by simp only [wx, wy, wz, stV, seval, IntWalk.iteOmega, IntWalk.toNatUp, reduceCtorEq] <;> rfl) (by simp only [wx, wy, wz, stV, seval, IntWalk.iteOmega, IntWalk.toNatUp, reduceCtorEq] <;> rfl) (by simp only [wx, wy, wz, stV, seval, IntWalk.iteOmega, IntWalk.toNatUp, reduceCtorEq])
/-! ### What the bytes of a signature say -/
theorem getN_1 {b : List UInt8} (h : 1 ≤ b.length) : getN (b.take 1) = sfH b := by
  match b, h with
  | x :: r, _ =>
    have := x.toNat_lt
    unfold getN sfH
    simp
theorem getN_4 {l : List UInt8} (h : l.length = 4) : getN l < 4294967296 := by
  match l, h with
  | [a, b, c, d], _ =>
    have := a.toNat_lt
    have := b.toNat_lt
    have := c.toNat_lt
    have := d.toNat_lt
    unfold getN
    simp only [List.foldl_cons, List.foldl_nil]
    omega
theorem sfI_lt {b : List UInt8} (h : 5 ≤ b.length) : sfI b < 4294967296 := getN_4 (by rw [List.length_take, List.length_drop]; omega)
theorem sfH_lt (b : List UInt8) : sfH b < 256 := UInt8.toNat_lt _
def sf_hof : SFn := ⟨1, 12,
  .seq (.reg [⟨(some 2), .alloc [(.d (.int .i64 0)), (.d (.int .i64 0))], none⟩])
  (.seq (.reg [⟨(some 3), .mv (.t 0), none⟩,
    ⟨(some 4), .slice 1 (.t 3) none (some (.k (.c (.d (.int .i64 1))))) none, none⟩,
    ⟨(some 5), .call 115 [(.t 4)] none, none⟩,
    ⟨(some 6), .conv .i64 (.t 5), none⟩,
    ⟨(some 7), .mv (.t 0), none⟩,
    ⟨(some 8), .slice 1 (.t 7) (some (.k (.c (.d (.int .i64 1))))) (some (.k (.c (.d (.int .i64 5))))) none, none⟩,
    ⟨(some 9), .call 115 [(.t 8)] none, none⟩,
    ⟨(some 10), .conv .i64 (.t 9), none⟩,
    ⟨(some 11), .build [(.d (.int .i64 0)), (.d (.int .i64 0))] [(0, 1, (.t 6)), (1, 1, (.t 10))], none⟩,
    ⟨none, .store (.ag 2) (.t 2) (.t 11), none⟩])
  (.ret)),
  [(2, (some (.ag 2)))]⟩
theorem cf_hof : compFn Tryd.prog { own := [], comp := [], frz := [], nils := [] } Tryd.f88 = some sf_hof := by kernel_rfl
set_option maxHeartbeats 1600000 in
theorem hof_c (G : Glob) (b : List UInt8) (h : 5 ≤ b.length) (hb : b.length ≤ 9223372036854775807) : Den Tryd.prog G 88 [.sl (b.map bD)] (.w (.c (.d (hedD (sfH b : Int) (sfI b : Int))))) := by
  refine den_walk Tryd.func88 cf_hof rfl rfl ?_
  have g1 := get_c G (b.take 1) (by rw [List.length_take]; omega)
  have g2 := get_c G ((b.drop 1).take 4) (by rw [List.length_take, List.length_drop]; omega)
  rw [getN_1 (by omega)] at g1
  have hI : getN ((b.drop 1).take 4) = sfI b := rfl
  rw [hI] at g2
  have i1 := sfI_lt h
  have i2 := sfH_lt b
  generalize sfI b = i at *
  generalize sfH b = m at *
  have c1 : (1 : Int) ≤ (b.length : Int) := by omega
  have c2 : (5 : Int) ≤ (b.length : Int) := by omega
  simp only [sf_hof, putAll, wx, wy, wz, stV, seval, IntWalk.iteOmega, IntWalk.toNatUp, reduceCtorEq]
  refine st_call (g1) rfl (.inl rfl) ?_
  simp only [wx, wy, wz, stV, seval, IntWalk.iteOmega, IntWalk.toNatUp, reduceCtorEq]
  refine st_call (g2) rfl (.inl rfl) ?_
  simp only [wx, wy, wz, stV, seval, IntWalk.iteOmega, IntWalk.toNatUp, reduceCtorEq]
  exact ret_d1 (by simp only [wx, wy, wz, stV, seval, IntWalk.iteOmega, IntWalk.toNatUp, reduceCtorEq])
def sf_hvl : SFn := ⟨1, 14,
  .seq (.reg [⟨(some 1), .box .roBox (.t 0), none⟩,
    ⟨(some 2), .mv (.k (.c (.d (.bool false)))), none⟩])
  (.seq (.reg [⟨(some 3), .fieldAddr 0 (.t 1), none⟩,
    ⟨(some 4), .load .sc (.t 3), none⟩,
    ⟨(some 5), .bin .leq (.t 4) (.k (.c (.d (.int .i64 6)))), none⟩,
    ⟨(some 6), .mv (.t 5), none⟩,
    ⟨(some 7), .fieldAddr 1 (.t 1), (some (6, true))⟩,
    ⟨(some 8), .load .sc (.t 7), (some (6, true))⟩,
    ⟨(some 9), .fieldAddr 0 (.t 1), (some (6, true))⟩,
    ⟨(some 10), .load .sc (.t 9), (some (6, true))⟩,
    ⟨(some 11), .call 52 [(.t 10)] none, (some (6, true))⟩,
    ⟨(some 12), .bin .lss (.t 8) (.t 11), (some (6, true))⟩,
    ⟨(some 13), .pick (.t 6) (.t 12) (.k (.c (.d (.bool false)))), none⟩,
    ⟨(some 2), .mv (.t 13), none⟩])
  (.ret)),
  [(2, none)]⟩
theorem cf_hvl : compFn Tryd.prog { own := [], comp := [], frz := [], nils := [] } Tryd.f89 = some sf_hvl := by kernel_rfl
theorem hvl_c (G : Glob) (h i : Nat) : Den Tryd.prog G 89 [hedD (h : Int) (i : Int)] (.w (.c (.d (.bool (decide (h ≤ 6 ∧ i < 2 ^ h)))))) := by
  refine den_walk Tryd.func89 cf_hvl rfl rfl ?_
  by_cases h1 : h ≤ 6
  · have hz := nsz_c G h h1
    have e : decide (h ≤ 6 ∧ i < 2 ^ h) = decide (i < 2 ^ h) := by simp [h1]
    rw [e]
    generalize 2 ^ h = N at *
    by_cases h2 : i < N
    · rw [decide_eq_true h2]
      simp only [sf_hvl, putAll, wx, wy, wz, stV, seval, IntWalk.iteOmega, IntWalk.toNatUp, reduceCtorEq]
      refine st_call (hz) rfl (.inl rfl) ?_
      simp only [wx, wy, wz, stV, seval, IntWalk.iteOmega, IntWalk.toNatUp, reduceCtorEq]
      exact ret_d1 (by simp only [wx, wy, wz, stV, seval, IntWalk.iteOmega, IntWalk.toNatUp, reduceCtorEq])
    · rw [decide_eq_false h2]
      simp only [sf_hvl, putAll, wx, wy, wz, stV, seval, IntWalk.iteOmega, IntWalk.toNatUp, reduceCtorEq]
      refine st_call (hz) rfl (.inl rfl) ?_
      simp only [wx, wy, wz, stV, seval, IntWalk.iteOmega, IntWalk.toNatUp, reduceCtorEq]
      exact ret_d1 (by simp only [wx, wy, wz, stV, seval, IntWalk.iteOmega, IntWalk.toNatUp, reduceCtorEq])
  · rw [decide_eq_false (fun k => h1 k.1)]
    simp only [sf_hvl, putAll, wx, wy, wz, stV, seval, IntWalk.iteOmega, IntWalk.toNatUp, reduceCtorEq]
    exact ret_d1 (by simp only [wx, wy, wz, stV, seval, IntWalk.iteOmega, IntWalk.toNatUp, reduceCtorEq])
theorem cutM_take {b : List UInt8} {n k m : Nat} (h : n * k ≤ m) : cutM (b.take m) n k = cutM b n k := by
  unfold cutM
  apply List.map_congr_left
  intro i hi
  have hi := List.mem_range.1 hi
  have h2 := Nat.mul_le_mul_left n (show i + 1 ≤ k from hi)
  rw [Nat.mul_succ] at h2
  rw [List.drop_take, List.take_take, Nat.min_eq_left (by omega)]
def sfD (b : List UInt8) : D := if sfB b = true then sgtD (sfH b : Int) (sfI b : Int) (sfE b) (sfP b) else sgtD 0 0 [] []
def sf_nrd : SFn := ⟨1, 35,
  .seq (.reg [⟨(some 2), .alloc [(.d (.int .i64 0)), (.d (.int .i64 0)), .nil, .nil], none⟩,
    ⟨(some 3), .mv (.k (.c (.d (.bool false)))), none⟩])
  (.seq (.seq (.reg [⟨(some 6), .mv (.t 0), none⟩,
    ⟨(some 7), .len (.t 6), none⟩,
    ⟨(some 8), .bin .lss (.t 7) (.k (.c (.d (.int .i64 5)))), none⟩])
  (.cond (.t 8) (.seq (.reg [⟨(some 9), .build [(.d (.int .i64 0)), (.d (.int .i64 0)), .nil, .nil] [], none⟩,
     ⟨none, .store (.ag 4) (.t 2) (.t 9), none⟩,
     ⟨(some 3), .mv (.k (.c (.d (.bool false)))), none⟩])
   (.ret))
   (.skip)))
  (.seq (.reg [⟨(some 10), .mv (.t 0), none⟩,
    ⟨(some 11), .call 88 [(.t 10)] none, none⟩,
    ⟨(some 4), .alloc [(.d (.int .i64 0)), (.d (.int .i64 0))], none⟩,
    ⟨none, .store (.ag 2) (.t 4) (.t 11), none⟩])
  (.seq (.seq (.reg [⟨(some 12), .load (.ag 2) (.t 4), none⟩,
    ⟨(some 13), .call 89 [(.t 12)] none, none⟩,
    ⟨(some 14), .un .not (.t 13), none⟩,
    ⟨(some 15), .mv (.t 14), none⟩,
    ⟨(some 16), .mv (.t 0), (some (15, false))⟩,
    ⟨(some 17), .len (.t 16), (some (15, false))⟩,
    ⟨(some 18), .fieldAddr 0 (.t 4), (some (15, false))⟩,
    ⟨(some 19), .load .sc (.t 18), (some (15, false))⟩,
    ⟨(some 20), .bin .mul (.t 19) (.k (.c (.d (.int .i64 32)))), (some (15, false))⟩,
    ⟨(some 21), .bin .add (.k (.c (.d (.int .i64 565)))) (.t 20), (some (15, false))⟩,
    ⟨(some 22), .bin .neq (.t 17) (.t 21), (some (15, false))⟩,
    ⟨(some 23), .pick (.t 15) (.k (.c (.d (.bool true)))) (.t 22), none⟩])
  (.cond (.t 23) (.seq (.reg [⟨(some 24), .build [(.d (.int .i64 0)), (.d (.int .i64 0)), .nil, .nil] [], none⟩,
     ⟨none, .store (.ag 4) (.t 2) (.t 24), none⟩,
     ⟨(some 3), .mv (.k (.c (.d (.bool false)))), none⟩])
   (.ret))
   (.skip)))
  (.seq (.reg [⟨(some 25), .mv (.t 0), none⟩,
    ⟨(some 26), .slice 1 (.t 25) (some (.k (.c (.d (.int .i64 5))))) none none, none⟩,
    ⟨(some 5), .mv (.t 26), none⟩])
  (.seq (.reg [⟨(some 27), .load (.ag 2) (.t 4), none⟩,
    ⟨(some 28), .mv (.t 5), none⟩,
    ⟨(some 29), .slice 1 (.t 28) none (some (.k (.c (.d (.int .i64 560))))) none, none⟩,
    ⟨(some 30), .call 90 [(.t 29), (.k (.c (.d (.int .i64 16))))] none, none⟩,
    ⟨(some 31), .mv (.t 5), none⟩,
    ⟨(some 32), .slice 1 (.t 31) (some (.k (.c (.d (.int .i64 560))))) none none, none⟩,
    ⟨(some 33), .call 90 [(.t 32), (.k (.c (.d (.int .i64 32))))] none, none⟩,
    ⟨(some 34), .build [(.d (.int .i64 0)), (.d (.int .i64 0)), .nil, .nil] [(0, 2, (.t 27)), (2, 1, (.t 30)), (3, 1, (.t 33))], none⟩,
    ⟨none, .store (.ag 4) (.t 2) (.t 34), none⟩,
    ⟨(some 3), .mv (.k (.c (.d (.bool true)))), none⟩])
  (.ret)))))),
  [(2, (some (.ag 4))), (3, none)]⟩
theorem cf_nrd : compFn Tryd.prog { own := [], comp := [], frz := [], nils := [] } Tryd.f54 = some sf_nrd := by kernel_rfl
set_option maxHeartbeats 3200000 in
theorem nrd_c (G : Glob) (b : List UInt8) (hb : b.length ≤ 140737488355328) : Den Tryd.prog G 54 [.sl (b.map bD)] (.tup [.c (.d (sfD b)), .c (.d (.bool (sfB b)))]) := by
  refine den_walk Tryd.func54 cf_nrd rfl rfl ?_
  unfold sfD
  by_cases h : 5 ≤ b.length
  · have h1 := hof_c G b h (by omega)
    have h2 := hvl_c G (sfH b) (sfI b)
    have i2 := sfH_lt b
    by_cases hv : sfH b ≤ 6 ∧ sfI b < 2 ^ sfH b
    · rw [decide_eq_true hv] at h2
      by_cases hl : b.length = 565 + 32 * sfH b
      · have hB : sfB b = true := decide_eq_true ⟨by omega, hv.1, hv.2, hl⟩
        rw [hB, if_pos rfl]
        have p1 := pcs_f G ((b.drop 5).take 560) 16 35 (by decide) (by decide) (by rw [List.length_take]; omega) (by rw [List.length_take, List.length_drop]; omega) (by decide)
        rw [cutM_take (by decide)] at p1
        have p2 := pcs_f G ((b.drop 5).drop 560) 32 (sfH b) (by decide) (by decide) (by simp only [List.length_drop]; omega) (by simp only [List.length_drop]; omega) (by omega)
        have hd : (b.drop 5).drop 560 = b.drop 565 := by rw [List.drop_drop]
        have eE : cutM (b.drop 5) 16 35 = sfE b := rfl
        have eP : cutM ((b.drop 5).drop 560) 32 (sfH b) = sfP b := by rw [hd]; rfl
        rw [eP] at p2
        rw [eE] at p1
        have hld : (b.drop 5).length = 560 + 32 * sfH b := by rw [List.length_drop]; omega
        have ht : (b.drop 5).take (565 + 32 * sfH b - 5) = b.drop 5 := List.take_of_length_le (by rw [List.length_drop]; omega)
        have ht2 : ((b.drop 5).drop 560).take (560 + 32 * sfH b - 560) = (b.drop 5).drop 560 := List.take_of_length_le (by simp only [List.length_drop]; omega)
        generalize sfE b = e at *
        generalize sfP b = p at *
        generalize sfI b = i at *
        generalize sfH b = m at *
        simp only [sf_nrd, putAll, wx, wy, wz, stV, seval, IntWalk.iteOmega, IntWalk.toNatUp, reduceCtorEq]
        refine st_call (h1) rfl (.inl rfl) ?_
        simp only [wx, wy, wz, stV, seval, IntWalk.iteOmega, IntWalk.toNatUp, reduceCtorEq]
        refine st_call (h2) rfl (.inl rfl) ?_
        simp only [hl, hld, ht, wx, wy, wz, stV, seval, IntWalk.iteOmega, IntWalk.toNatUp, reduceCtorEq]
        refine st_call (p1) rfl (.inl rfl) ?_
        simp only [hld, ht2, wx, wy, wz, stV, seval, IntWalk.iteOmega, IntWalk.toNatUp, reduceCtorEq]
        refine st_call (p2) rfl (.inl rfl) ?_
        simp only [wx, wy, wz, stV, seval, IntWalk.iteOmega, IntWalk.toNatUp, reduceCtorEq]
        exact ret_d2 (by simp only [wx, wy, wz, stV, seval, IntWalk.iteOmega, IntWalk.toNatUp, reduceCtorEq] <;> rfl) (by simp only [wx, wy, wz, stV, seval, IntWalk.iteOmega, IntWalk.toNatUp, reduceCtorEq])
      · have hB : sfB b = false := decide_eq_false fun k => hl k.2.2.2
        rw [hB, if_neg (by decide)]
        generalize sfI b = i at *
        generalize sfH b = m at *
        simp only [sf_nrd, putAll, wx, wy, wz, stV, seval, IntWalk.iteOmega, IntWalk.toNatUp, reduceCtorEq]
        refine st_call (h1) rfl (.inl rfl) ?_
        simp only [wx, wy, wz, stV, seval, IntWalk.iteOmega, IntWalk.toNatUp, reduceCtorEq]
        refine st_call (h2) rfl (.inl rfl) ?_
        simp only [wx, wy, wz, stV, seval, IntWalk.iteOmega, IntWalk.toNatUp, reduceCtorEq]
        exact ret_d2 (by simp only [wx, wy, wz, stV, seval, IntWalk.iteOmega, IntWalk.toNatUp, reduceCtorEq] <;> rfl) (by simp only [wx, wy, wz, stV, seval, IntWalk.iteOmega, IntWalk.toNatUp, reduceCtorEq])
    · rw [decide_eq_false hv] at h2
      have hB : sfB b = false := decide_eq_false fun k => hv ⟨k.2.1, k.2.2.1⟩
      rw [hB, if_neg (by decide)]
      generalize sfI b = i at *
      generalize sfH b = m at *
      simp only [sf_nrd, putAll, wx, wy, wz, stV, seval, IntWalk.iteOmega, IntWalk.toNatUp, reduceCtorEq]
      refine st_call (h1) rfl (.inl rfl) ?_
      simp only [wx, wy, wz, stV, seval, IntWalk.iteOmega, IntWalk.toNatUp, reduceCtorEq]
      refine st_call (h2) rfl (.inl rfl) ?_
      simp only [wx, wy, wz, stV, seval, IntWalk.iteOmega, IntWalk.toNatUp, reduceCtorEq]
      exact ret_d2 (by simp only [wx, wy, wz, stV, seval, IntWalk.iteOmega, IntWalk.toNatUp, reduceCtorEq] <;> rfl) (by simp only [wx, wy, wz, stV, seval, IntWalk.iteOmega, IntWalk.toNatUp, reduceCtorEq])
  · have hB : sfB b = false := decide_eq_false fun k => by omega
    rw [hB, if_neg (by decide)]
    simp only [sf_nrd, putAll, wx, wy, wz, stV, seval, IntWalk.iteOmega, IntWalk.toNatUp, reduceCtorEq]
    exact ret_d2 (by simp only [wx, wy, wz, stV, seval, IntWalk.iteOmega, IntWalk.toNatUp, reduceCtorEq] <;> rfl) (by simp only [wx, wy, wz, stV, seval, IntWalk.iteOmega, IntWalk.toNatUp, reduceCtorEq])
def sf_nix : SFn := ⟨1, 16,
  .seq (.reg [⟨(some 2), .mv (.k (.c (.d (.int .i64 0)))), none⟩,
    ⟨(some 3), .mv (.k (.c (.d (.int .i64 0)))), none⟩])
  (.seq (.reg [⟨(some 7), .mv (.t 0), none⟩,
    ⟨(some 8), .call 54 [(.t 7)] none, none⟩,
    ⟨(some 6), .mv (.t 8), none⟩,
    ⟨(some 9), .extract (.t 6) 0, none⟩,
    ⟨(some 10), .extract (.t 6) 1, none⟩,
    ⟨(some 4), .alloc [(.d (.int .i64 0)), (.d (.int .i64 0)), .nil, .nil], none⟩,
    ⟨none, .store (.ag 4) (.t 4) (.t 9), none⟩,
    ⟨(some 5), .mv (.t 10), none⟩])
  (.seq (.seq (.reg [⟨(some 11), .mv (.t 5), none⟩,
    ⟨(some 12), .un .not (.t 11), none⟩])
  (.cond (.t 12) (.seq (.reg [⟨(some 2), .mv (.k (.c (.d (.int .i64 0)))), none⟩,
     ⟨(some 3), .mv (.k (.c (.d (.int .i64 3)))), none⟩])
   (.ret))
   (.skip)))
  (.seq (.reg [⟨(some 13), .fieldAddr 0 (.t 4), none⟩,
    ⟨(some 14), .fieldAddr 1 (.t 13), none⟩,
    ⟨(some 15), .load .sc (.t 14), none⟩,
    ⟨(some 2), .mv (.t 15), none⟩,
    ⟨(some 3), .mv (.k (.c (.d (.int .i64 0)))), none⟩])
  (.ret)))),
  [(2, none), (3, none)]⟩
theorem cf_nix : compFn Tryd.prog { own := [], comp := [], frz := [], nils := [] } Tryd.f20 = some sf_nix := by kernel_rfl
set_option maxHeartbeats 1600000 in
theorem nix_c (G : Glob) (b : List UInt8) (hb : b.length ≤ 140737488355328) : Den Tryd.prog G 20 [.sl (b.map bD)] (.tup [.c (.d (.int .i64 (sixV b))), .c (.d (.int .i64 (sixE b)))]) := by
  refine den_walk Tryd.func20 cf_nix rfl rfl ?_
  have h1 := nrd_c G b hb
  unfold sfD at h1
  unfold sixV sixE
  cases e : sfB b
  · rw [e, if_neg (by decide)] at h1
    rw [if_neg (by decide), if_neg (by decide)]
    simp only [sf_nix, putAll, wx, wy, wz, stV, seval, IntWalk.iteOmega, IntWalk.toNatUp, reduceCtorEq]
    refine st_call (h1) rfl (.inl rfl) ?_
    simp only [wx, wy, wz, stV, seval, IntWalk.iteOmega, IntWalk.toNatUp, reduceCtorEq]
    exact ret_d2 (by simp only [wx, wy, wz, stV, seval, IntWalk.iteOmega, IntWalk.toNatUp, reduceCtorEq]) (by simp only [wx, wy, wz, stV, seval, IntWalk.iteOmega, IntWalk.toNatUp, reduceCtorEq])
  · rw [e, if_pos rfl] at h1
    rw [if_pos rfl, if_pos rfl]
    generalize sfE b = x1 at *
    generalize sfP b = x2 at *
    generalize sfI b = i at *
    generalize sfH b = m at *
    simp only [sf_nix, putAll, wx, wy, wz, stV, seval, IntWalk.iteOmega, IntWalk.toNatUp, reduceCtorEq]
    refine st_call (h1) rfl (.inl rfl) ?_
    simp only [wx, wy, wz, stV, seval, IntWalk.iteOmega, IntWalk.toNatUp, reduceCtorEq]
    exact ret_d2 (by simp only [wx, wy, wz, stV, seval, IntWalk.iteOmega, IntWalk.toNatUp, reduceCtorEq]) (by simp only [wx, wy, wz, stV, seval, IntWalk.iteOmega, IntWalk.toNatUp, reduceCtorEq])
theorem recOk {d : List UInt8} {b : List UInt8} (hd : d.length = 16) (h : 565 ≤ b.length) : recE d (sfE b) = 0 ∧ recV d (sfE b) = recM d (sfE b) := by
  have hf : formB (sfE b) = true := formB_3 (cutM_len _ _ _) (fun j hj => sfE_mem h _ (getLs_mem hj))
  have hE : recE d (sfE b) = 0 := by unfold recE; rw [if_pos (dig_ok hd).1, hf]; rfl
  exact ⟨hE, if_pos hE⟩
theorem recM_len (d : List UInt8) (s : List (List UInt8)) : (recM d s).length = 16 := shortK_len _
def sf_nvf : SFn := ⟨3, 53,
  .seq (.reg [⟨(some 6), .mv (.k (.c (.d (.bool false)))), none⟩])
  (.seq (.seq (.reg [⟨(some 11), .mv (.t 0), none⟩,
    ⟨(some 12), .len (.t 11), none⟩,
    ⟨(some 13), .bin .neq (.t 12) (.k (.c (.d (.int .i64 32)))), none⟩,
    ⟨(some 14), .mv (.t 13), none⟩,
    ⟨(some 15), .mv (.t 1), (some (14, false))⟩,
    ⟨(some 16), .len (.t 15), (some (14, false))⟩,
    ⟨(some 17), .bin .gtr (.t 16) (.k (.c (.d (.int .i64 65535)))), (some (14, false))⟩,
    ⟨(some 18), .pick (.t 14) (.k (.c (.d (.bool true)))) (.t 17), none⟩])
  (.cond (.t 18) (.seq (.reg [⟨(some 6), .mv (.k (.c (.d (.bool false)))), none⟩])
   (.ret))
   (.skip)))
  (.seq (.reg [⟨(some 20), .mv (.t 2), none⟩,
    ⟨(some 21), .call 54 [(.t 20)] none, none⟩,
    ⟨(some 19), .mv (.t 21), none⟩,
    ⟨(some 22), .extract (.t 19) 0, none⟩,
    ⟨(some 23), .extract (.t 19) 1, none⟩,
    ⟨(some 7), .alloc [(.d (.int .i64 0)), (.d (.int .i64 0)), .nil, .nil], none⟩,
    ⟨none, .store (.ag 4) (.t 7) (.t 22), none⟩,
    ⟨(some 8), .mv (.t 23), none⟩])
  (.seq (.seq (.reg [⟨(some 24), .mv (.t 8), none⟩,
    ⟨(some 25), .un .not (.t 24), none⟩])
  (.cond (.t 25) (.seq (.reg [⟨(some 6), .mv (.k (.c (.d (.bool false)))), none⟩])
   (.ret))
   (.skip)))
  (.seq (.reg [⟨(some 27), .fieldAddr 0 (.t 7), none⟩,
    ⟨(some 28), .load (.ag 2) (.t 27), none⟩,
    ⟨(some 29), .mv (.t 0), none⟩,
    ⟨(some 30), .mv (.t 1), none⟩,
    ⟨(some 31), .call 57 [(.t 28), (.t 29), (.t 30)] none, none⟩,
    ⟨(some 32), .fieldAddr 2 (.t 7), none⟩,
    ⟨(some 33), .load .sc (.t 32), none⟩,
    ⟨(some 34), .call 56 [(.t 31), (.t 33)] none, none⟩,
    ⟨(some 26), .mv (.t 34), none⟩,
    ⟨(some 35), .extract (.t 26) 0, none⟩,
    ⟨(some 36), .extract (.t 26) 1, none⟩,
    ⟨(some 9), .mv (.t 35), none⟩,
    ⟨(some 10), .mv (.t 36), none⟩])
  (.seq (.reg [⟨(some 37), .mv (.t 10), none⟩,
    ⟨(some 38), .bin .eql (.t 37) (.k (.c (.d (.int .i64 0)))), none⟩,
    ⟨(some 39), .mv (.t 38), none⟩,
    ⟨(some 40), .mv (.t 0), (some (39, true))⟩,
    ⟨(some 41), .fieldAddr 0 (.t 7), (some (39, true))⟩,
    ⟨(some 42), .fieldAddr 0 (.t 41), (some (39, true))⟩,
    ⟨(some 43), .load .sc (.t 42), (some (39, true))⟩,
    ⟨(some 44), .call 52 [(.t 43)] none, (some (39, true))⟩,
    ⟨(some 45), .fieldAddr 0 (.t 7), (some (39, true))⟩,
    ⟨(some 46), .fieldAddr 1 (.t 45), (some (39, true))⟩,
    ⟨(some 47), .load .sc (.t 46), (some (39, true))⟩,
    ⟨(some 48), .mv (.t 9), (some (39, true))⟩,
    ⟨(some 49), .fieldAddr 3 (.t 7), (some (39, true))⟩,
    ⟨(some 50), .load .sc (.t 49), (some (39, true))⟩,
    ⟨(some 51), .call 33 [(.t 40), (.t 44), (.t 47), (.t 48), (.t 50)] none, (some (39, true))⟩,
    ⟨(some 52), .pick (.t 39) (.t 51) (.k (.c (.d (.bool false)))), none⟩,
    ⟨(some 6), .mv (.t 52), none⟩])
  (.ret)))))),
  [(6, none)]⟩
theorem cf_nvf : compFn Tryd.prog { own := [], comp := [], frz := [], nils := [] } Tryd.f22 = some sf_nvf := by kernel_rfl
set_option maxHeartbeats 3200000 in
theorem nvf_c (G : Glob) (hF : G.at 0 = some (.ra (firstK.map wD))) (hG : G.at 1 = some (.ra (constK.map wD))) (pub msg b : List UInt8) (hp : pub.length ≤ 9223372036854775807) (hm : msg.length ≤ 9223372036854775807) (hb : b.length ≤ 140737488355328) : Den Tryd.prog G 22 [.sl (pub.map bD), .sl (msg.map bD), .sl (b.map bD)] (.w (.c (.d (.bool (svfB pub msg b))))) := by
  refine den_walk Tryd.func22 cf_nvf rfl rfl ?_
  have h1 := nrd_c G b hb
  unfold sfD at h1
  unfold svfB
  by_cases k1 : pub.length = 32
  · rw [decide_eq_true k1, Bool.true_and]
    by_cases k2 : msg.length ≤ 65535
    · rw [decide_eq_true k2, Bool.true_and]
      cases e : sfB b
      · rw [e, if_neg (by decide)] at h1
        rw [Bool.false_and]
        simp only [sf_nvf, putAll, wx, wy, wz, stV, seval, IntWalk.iteOmega, IntWalk.toNatUp, reduceCtorEq, k1]
        refine st_call (h1) rfl (.inl rfl) ?_
        simp only [wx, wy, wz, stV, seval, IntWalk.iteOmega, IntWalk.toNatUp, reduceCtorEq]
        exact ret_d1 (by simp only [wx, wy, wz, stV, seval, IntWalk.iteOmega, IntWalk.toNatUp, reduceCtorEq])
      · rw [e, if_pos rfl] at h1
        rw [Bool.true_and]
        obtain ⟨q1, q2, q3, q4⟩ := sfB_ok e
        have h64 := pow6 q2
        have hd := sdig_len pub (sfI b) msg
        have hh := hdg_c G hF hG (sfH b : Int) (sfI b) pub msg (by omega) (by omega) (by omega)
        have hl16 := sfE_mem q1
        have hl32 := sfP_mem q4
        have hr := rec_c G hF hG (sdig pub (sfI b) msg) (sfE b) (by omega) (by unfold sfE; rw [cutM_len]; decide) (fun x hx => by rw [hl16 x hx]; decide)
        rw [(recOk hd q1).1, (recOk hd q1).2] at hr
        have hz := nsz_c G (sfH b) q2
        have hrl := recM_len (sdig pub (sfI b) msg) (sfE b)
        have hc := chkt_c G hF hG pub ((2 ^ sfH b : Nat) : Int) (sfI b : Int) (recM (sdig pub (sfI b) msg) (sfE b)) (sfP b) (by omega) (by unfold sfP; rw [cutM_len]; omega) (fun x hx => by rw [hl32 x hx]; decide)
        generalize checkB pub ((2 ^ sfH b : Nat) : Int) (sfI b : Int) (recM (sdig pub (sfI b) msg) (sfE b)) (sfP b) = z at *
        generalize recM (sdig pub (sfI b) msg) (sfE b) = y at *
        generalize sdig pub (sfI b) msg = d at *
        generalize sfE b = x1 at *
        generalize sfP b = x2 at *
        generalize sfI b = i at *
        generalize sfH b = m at *
        generalize 2 ^ m = N at *
        simp only [sf_nvf, putAll, wx, wy, wz, stV, seval, IntWalk.iteOmega, IntWalk.toNatUp, reduceCtorEq, k1]
        refine st_call (h1) rfl (.inl rfl) ?_
        simp only [wx, wy, wz, stV, seval, IntWalk.iteOmega, IntWalk.toNatUp, reduceCtorEq]
        refine st_call (hh) rfl (.inl rfl) ?_
        simp only [wx, wy, wz, stV, seval, IntWalk.iteOmega, IntWalk.toNatUp, reduceCtorEq]
        refine st_call (hr) rfl (.inl rfl) ?_
        simp only [wx, wy, wz, stV, seval, IntWalk.iteOmega, IntWalk.toNatUp, reduceCtorEq]
        refine st_call (hz) rfl (.inl rfl) ?_
        simp only [wx, wy, wz, stV, seval, IntWalk.iteOmega, IntWalk.toNatUp, reduceCtorEq]
        refine st_call (hc) rfl (.inl rfl) ?_
        simp only [wx, wy, wz, stV, seval, IntWalk.iteOmega, IntWalk.toNatUp, reduceCtorEq]
        exact ret_d1 (by simp only [wx, wy, wz, stV, seval, IntWalk.iteOmega, IntWalk.toNatUp, reduceCtorEq])
    · rw [decide_eq_false k2, Bool.false_and]
      simp only [sf_nvf, putAll, wx, wy, wz, stV, seval, IntWalk.iteOmega, IntWalk.toNatUp, reduceCtorEq, k1]
      exact ret_d1 (by simp only [wx, wy, wz, stV, seval, IntWalk.iteOmega, IntWalk.toNatUp, reduceCtorEq])
  · rw [decide_eq_false k1, Bool.false_and]
    simp only [sf_nvf, putAll, wx, wy, wz, stV, seval, IntWalk.iteOmega, IntWalk.toNatUp, reduceCtorEq]
    exact ret_d1 (by simp only [wx, wy, wz, stV, seval, IntWalk.iteOmega, IntWalk.toNatUp, reduceCtorEq])
end Go.Proofs.YtjgkchmdhicmpaaDoor
set_option linter.unusedVariables false
set_option linter.unusedSimpArgs false
namespace Go.Proofs.YtjgkchmdhicmpaaDoor
open Go.RowKit

theorem wru6 {h : Nat} (hh : h ≤ 6) : IntKind.u64.wrap (h : Int) = (h : Int) := by rw [IntKind.wrap_u64]; omega
def sf_mval : SFn := ⟨1, 31,
  .seq (.reg [⟨(some 1), .box .roBox (.t 0), none⟩,
    ⟨(some 2), .mv (.k (.c (.d (.bool false)))), none⟩])
  (.seq (.reg [⟨(some 3), .fieldAddr 0 (.t 1), none⟩,
    ⟨(some 4), .load .sc (.t 3), none⟩,
    ⟨(some 5), .len (.t 4), none⟩,
    ⟨(some 6), .bin .eql (.t 5) (.k (.c (.d (.int .i64 32)))), none⟩,
    ⟨(some 7), .mv (.t 6), none⟩,
    ⟨(some 8), .fieldAddr 1 (.t 1), (some (7, true))⟩,
    ⟨(some 9), .load .sc (.t 8), (some (7, true))⟩,
    ⟨(some 10), .bin .geq (.t 9) (.k (.c (.d (.int .i64 0)))), (some (7, true))⟩,
    ⟨(some 11), .pick (.t 7) (.t 10) (.k (.c (.d (.bool false)))), none⟩,
    ⟨(some 12), .mv (.t 11), none⟩,
    ⟨(some 13), .fieldAddr 1 (.t 1), (some (12, true))⟩,
    ⟨(some 14), .load .sc (.t 13), (some (12, true))⟩,
    ⟨(some 15), .bin .leq (.t 14) (.k (.c (.d (.int .i64 6)))), (some (12, true))⟩,
    ⟨(some 16), .pick (.t 12) (.t 15) (.k (.c (.d (.bool false)))), none⟩,
    ⟨(some 17), .mv (.t 16), none⟩,
    ⟨(some 18), .fieldAddr 2 (.t 1), (some (17, true))⟩,
    ⟨(some 19), .load .sc (.t 18), (some (17, true))⟩,
    ⟨(some 20), .bin .geq (.t 19) (.k (.c (.d (.int .i64 0)))), (some (17, true))⟩,
    ⟨(some 21), .pick (.t 17) (.t 20) (.k (.c (.d (.bool false)))), none⟩,
    ⟨(some 22), .mv (.t 21), none⟩,
    ⟨(some 23), .fieldAddr 2 (.t 1), (some (22, true))⟩,
    ⟨(some 24), .load .sc (.t 23), (some (22, true))⟩,
    ⟨(some 25), .fieldAddr 1 (.t 1), (some (22, true))⟩,
    ⟨(some 26), .load .sc (.t 25), (some (22, true))⟩,
    ⟨(some 27), .conv .u64 (.t 26), (some (22, true))⟩,
    ⟨(some 28), .bin .shl (.k (.c (.d (.int .i64 1)))) (.t 27), (some (22, true))⟩,
    ⟨(some 29), .bin .leq (.t 24) (.t 28), (some (22, true))⟩,
    ⟨(some 30), .pick (.t 22) (.t 29) (.k (.c (.d (.bool false)))), none⟩,
    ⟨(some 2), .mv (.t 30), none⟩])
  (.ret)),
  [(2, none)]⟩
theorem cf_mval : compFn Tryd.prog { own := [], comp := [], frz := [], nils := [] } Tryd.f17 = some sf_mval := by kernel_rfl
theorem mval_c (G : Glob) (seed : List UInt8) (h n : Int) : Den Tryd.prog G 17 [keyD seed h n] (.w (.c (.d (.bool (svalB seed h n))))) := by
  refine den_walk Tryd.func17 cf_mval rfl rfl ?_
  by_cases e : sckE seed h = 0
  · obtain ⟨k1, k2, k3⟩ := sckE_ok e
    by_cases h1 : n < 0
    · rw [sval_2 h1]
      simp only [sf_mval, putAll, wx, wy, wz, stV, seval, IntWalk.iteOmega, IntWalk.toNatUp, reduceCtorEq, k1]
      exact ret_d1 (by simp only [wx, wy, wz, stV, seval, IntWalk.iteOmega, IntWalk.toNatUp, reduceCtorEq])
    · have hn : 0 ≤ n := by omega
      obtain ⟨m, rfl⟩ := Int.eq_ofNat_of_zero_le k2
      have hs := shl6u (h := m) (by omega)
      have hw := wru6 (h := m) (by omega)
      have hV : svalB seed (m : Int) n = decide (n ≤ ((2 ^ m : Nat) : Int)) := by
        unfold svalB
        simp only [e, hn, true_and]
        rfl
      rw [hV]
      generalize 2 ^ m = p at *
      by_cases h2 : n ≤ (p : Int)
      · rw [decide_eq_true h2]
        simp only [sf_mval, putAll, wx, wy, wz, stV, seval, IntWalk.iteOmega, IntWalk.toNatUp, reduceCtorEq, k1, hw, hs]
        exact ret_d1 (by simp only [wx, wy, wz, stV, seval, IntWalk.iteOmega, IntWalk.toNatUp, reduceCtorEq])
      · rw [decide_eq_false h2]
        simp only [sf_mval, putAll, wx, wy, wz, stV, seval, IntWalk.iteOmega, IntWalk.toNatUp, reduceCtorEq, k1, hw, hs]
        exact ret_d1 (by simp only [wx, wy, wz, stV, seval, IntWalk.iteOmega, IntWalk.toNatUp, reduceCtorEq])
  · rw [sval_1 e]
    by_cases k1 : seed.length = 32
    · by_cases k2 : h < 0
      · simp only [sf_mval, putAll, wx, wy, wz, stV, seval, IntWalk.iteOmega, IntWalk.toNatUp, reduceCtorEq, k1]
        exact ret_d1 (by simp only [wx, wy, wz, stV, seval, IntWalk.iteOmega, IntWalk.toNatUp, reduceCtorEq])
      · have k3 : ¬ h ≤ 6 := fun k => e (sckE_in k1 (by omega) k)
        simp only [sf_mval, putAll, wx, wy, wz, stV, seval, IntWalk.iteOmega, IntWalk.toNatUp, reduceCtorEq, k1]
        exact ret_d1 (by simp only [wx, wy, wz, stV, seval, IntWalk.iteOmega, IntWalk.toNatUp, reduceCtorEq])
    · simp only [sf_mval, putAll, wx, wy, wz, stV, seval, IntWalk.iteOmega, IntWalk.toNatUp, reduceCtorEq]
      exact ret_d1 (by simp only [wx, wy, wz, stV, seval, IntWalk.iteOmega, IntWalk.toNatUp, reduceCtorEq])
def sf_mlft : SFn := ⟨1, 14,
  .seq (.reg [⟨(some 1), .box .roBox (.t 0), none⟩,
    ⟨(some 2), .mv (.k (.c (.d (.int .i64 0)))), none⟩,
    ⟨(some 3), .mv (.k (.c (.d (.int .i64 0)))), none⟩])
  (.seq (.seq (.reg [⟨(some 4), .load (.ag 3) (.t 1), none⟩,
    ⟨(some 5), .call 17 [(.t 4)] none, none⟩,
    ⟨(some 6), .un .not (.t 5), none⟩])
  (.cond (.t 6) (.seq (.reg [⟨(some 2), .mv (.k (.c (.d (.int .i64 0)))), none⟩,
     ⟨(some 3), .mv (.k (.c (.d (.int .i64 3)))), none⟩])
   (.ret))
   (.skip)))
  (.seq (.reg [⟨(some 7), .fieldAddr 1 (.t 1), none⟩,
    ⟨(some 8), .load .sc (.t 7), none⟩,
    ⟨(some 9), .conv .u64 (.t 8), none⟩,
    ⟨(some 10), .bin .shl (.k (.c (.d (.int .i64 1)))) (.t 9), none⟩,
    ⟨(some 11), .fieldAddr 2 (.t 1), none⟩,
    ⟨(some 12), .load .sc (.t 11), none⟩,
    ⟨(some 13), .bin .sub (.t 10) (.t 12), none⟩,
    ⟨(some 2), .mv (.t 13), none⟩,
    ⟨(some 3), .mv (.k (.c (.d (.int .i64 0)))), none⟩])
  (.ret))),
  [(2, none), (3, none)]⟩
theorem cf_mlft : compFn Tryd.prog { own := [], comp := [], frz := [], nils := [] } Tryd.f15 = some sf_mlft := by kernel_rfl
theorem mlft_c (G : Glob) (seed : List UInt8) (h n : Int) : Den Tryd.prog G 15 [keyD seed h n] (.tup [.c (.d (.int .i64 (sleftV seed h n))), .c (.d (.int .i64 (sleftE seed h n)))]) := by
  refine den_walk Tryd.func15 cf_mlft rfl rfl ?_
  have hk := mval_c G seed h n
  unfold sleftV sleftE
  cases e : svalB seed h n
  · rw [e] at hk
    simp only [sf_mlft, putAll, wx, wy, wz, stV, seval, IntWalk.iteOmega, IntWalk.toNatUp, reduceCtorEq]
    refine st_call (hk) rfl (.inl rfl) ?_
    simp only [wx, wy, wz, stV, seval, IntWalk.iteOmega, IntWalk.toNatUp, reduceCtorEq]
    exact ret_d2 (by simp only [wx, wy, wz, stV, seval, IntWalk.iteOmega, IntWalk.toNatUp, reduceCtorEq]) (by simp only [wx, wy, wz, stV, seval, IntWalk.iteOmega, IntWalk.toNatUp, reduceCtorEq])
  · rw [e] at hk
    obtain ⟨k1, k2, k3, k4, k5⟩ := sval_ok e
    obtain ⟨m, rfl⟩ := Int.eq_ofNat_of_zero_le k2
    have h64 := pow6 (h := m) (by omega)
    have hs := shl6u (h := m) (by omega)
    have hw := wru6 (h := m) (by omega)
    have et : ((m : Int).toNat) = m := rfl
    rw [et] at k5 ⊢
    generalize 2 ^ m = p at *
    simp only [sf_mlft, putAll, wx, wy, wz, stV, seval, IntWalk.iteOmega, IntWalk.toNatUp, reduceCtorEq]
    refine st_call (hk) rfl (.inl rfl) ?_
    simp only [hw, hs, wx, wy, wz, stV, seval, IntWalk.iteOmega, IntWalk.toNatUp, reduceCtorEq]
    exact ret_d2 (by simp only [wx, wy, wz, stV, seval, IntWalk.iteOmega, IntWalk.toNatUp, reduceCtorEq]) (by simp only [wx, wy, wz, stV, seval, IntWalk.iteOmega, IntWalk.toNatUp, reduceCtorEq])
def mlvV : Nat → V
  | 0 => .w (.c .nil)
  | j + 1 => .w (.c (.own 1 1 0 (j + 1)))
def mlvH (seed : List UInt8) : Nat → List (Nat × Ob)
  | 0 => []
  | j + 1 => [(1, .row 1 ((lvsN seed (j + 1)).map fun l => D.sl (l.map bD)))]
def mlvSt (seed : List UInt8) (h j : Nat) : St := ⟨ofL [(0, .w (.c (.d (.sl (seed.map bD))))), (1, .w (.c (.d (.int .i64 (h : Int))))), (5, mlvV j), (6, .w (.c (.d (.int .i64 (j : Int)))))], hL (mlvH seed j), uL [1]⟩
def lp_mlvs_0 : SCode :=
  .seq (.seq (.reg [⟨(some 9), .mv (.t 6), none⟩,
    ⟨(some 10), .mv (.t 1), none⟩,
    ⟨(some 11), .conv .u64 (.t 10), none⟩,
    ⟨(some 12), .bin .shl (.k (.c (.d (.int .i64 1)))) (.t 11), none⟩,
    ⟨(some 13), .bin .lss (.t 9) (.t 12), none⟩])
  (.cond (.t 13) (.skip)
   (.exit 0)))
  (.seq (.block 1 (.seq (.reg [⟨(some 17), .mv (.t 0), none⟩,
     ⟨(some 18), .mv (.t 6), none⟩,
     ⟨(some 19), .call 80 [(.t 17), (.t 18)] none, none⟩,
     ⟨(some 16), .mv (.t 19), none⟩,
     ⟨(some 20), .extract (.t 16) 0, none⟩,
     ⟨(some 21), .extract (.t 16) 1, none⟩,
     ⟨(some 7), .mv (.t 20), none⟩,
     ⟨(some 8), .mv (.t 21), none⟩])
   (.reg [⟨(some 22), .mv (.t 5), none⟩,
     ⟨(some 23), .mv (.t 7), none⟩,
     ⟨(some 24), .bldSl false 1 1 (.sl []) [(0, (.t 23))], none⟩,
     ⟨(some 25), .app false 1 24 (.t 22) (.t 24), none⟩,
     ⟨(some 5), .mv (.t 25), none⟩])))
  (.reg [⟨(some 14), .mv (.t 6), none⟩,
    ⟨(some 15), .bin .add (.t 14) (.k (.c (.d (.int .i64 1)))), none⟩,
    ⟨(some 6), .mv (.t 15), none⟩]))
def sf_mlvs : SFn := ⟨2, 27,
  .seq (.reg [⟨(some 4), .mv (.k (.c .nil)), none⟩])
  (.seq (.reg [⟨(some 5), .mv (.k (.c .nil)), none⟩])
  (.seq (.seq (.reg [⟨(some 6), .mv (.k (.c (.d (.int .i64 0)))), none⟩])
  (.block 0 (.loop lp_mlvs_0)))
  (.seq (.reg [⟨(some 26), .mv (.t 5), none⟩,
    ⟨(some 4), .mv (.t 26), none⟩])
  (.ret)))),
  [(4, none)]⟩
theorem cf_mlvs : compFn Tryd.prog { own := [], comp := [], frz := [], nils := [] } Tryd.f46 = some sf_mlvs := by kernel_rfl
set_option maxHeartbeats 1600000 in
theorem mlvs_f (G : Glob) (seed : List UInt8) (h : Nat) (hs : seed.length = 32) (hh : h ≤ 6) : Den Tryd.prog G 46 [.sl (seed.map bD), .int .i64 (h : Int)] (.w (.c (.fr 1 ((lvsM seed h).map fun l => D.sl (l.map bD))))) := by
  refine den_walk Tryd.func46 cf_mlvs rfl rfl ?_
  have h64 := pow6 hh
  have hz := shl6u hh
  have hw := wru6 hh
  have hV : lvsM seed h = lvsN seed (2 ^ h) := rfl
  rw [hV]
  generalize 2 ^ h = N at *
  simp only [sf_mlvs, putAll, wx, wy, wz, stV, seval, IntWalk.iteOmega, IntWalk.toNatUp, reduceCtorEq]
  refine loop_st (mlvSt seed h) (fun j => N - j) (fun j => j ≤ N) 0 (Nat.zero_le _) ?_ ?_
  · refine ent_l (fun i => i) ?_ ?_ rfl rfl <;> simp only [wx, wex, wez, stV, seval, IntWalk.iteOmega, IntWalk.toNatUp, reduceCtorEq, mlvV, mlvH]
  · intro j hj
    have hl := lvsN_len seed j
    have hl1 := lvsN_len seed (j + 1)
    by_cases hlt : j < N
    · have hp := rpub_c G seed (j : Int)
      rw [(pubV_ok hs (by omega)).1, (pubV_ok hs (by omega)).2] at hp
      have h0 : ((lvsN seed j).map fun l => D.sl (l.map bD)) ++ [D.sl ((pubM seed j).map bD)] = (lvsN seed (j + 1)).map fun l => D.sl (l.map bD) := by rw [← lvsN_succ, List.map_append]; rfl
      rcases j with _ | j
      · have h0 : [D.sl ((pubM seed 0).map bD)] = (lvsN seed (0 + 1)).map fun l => D.sl (l.map bD) := by rw [← h0]; rfl
        generalize pubM seed 0 = x at *
        simp only [lp_mlvs_0, mlvSt, mlvV, mlvH, wx, wy, wz, stV, seval, IntWalk.iteOmega, IntWalk.toNatUp, reduceCtorEq, hw, hz]
        refine st_call (hp) rfl (.inl rfl) ?_
        simp only [srcV, wx, wy, wz, stV, seval, IntWalk.iteOmega, IntWalk.toNatUp, reduceCtorEq]
        refine lop_next (0 + 1) (by omega) (by omega) (ent_l (fun _ => 200) ?_ ?_ rfl rfl) <;> simp only [wx, wex, wez, stV, seval, IntWalk.iteOmega, IntWalk.toNatUp, reduceCtorEq, mlvV, mlvH, h0, hl1]
      · generalize pubM seed (j + 1) = x at *
        simp only [lp_mlvs_0, mlvSt, mlvV, mlvH, wx, wy, wz, stV, seval, IntWalk.iteOmega, IntWalk.toNatUp, reduceCtorEq, hw, hz]
        refine st_call (hp) rfl (.inl rfl) ?_
        simp only [srcV, hl, wx, wy, wz, stV, seval, IntWalk.iteOmega, IntWalk.toNatUp, reduceCtorEq]
        refine lop_next (j + 1 + 1) (by omega) (by omega) (ent_l (fun _ => 200) ?_ ?_ rfl rfl) <;> simp only [wx, wex, wez, stV, seval, IntWalk.iteOmega, IntWalk.toNatUp, reduceCtorEq, mlvV, mlvH, h0, hl1]
    · obtain rfl : j = N := by omega
      rcases j with _ | j
      · omega
      · simp only [lp_mlvs_0, mlvSt, mlvV, mlvH, wx, wy, wz, stV, seval, IntWalk.iteOmega, IntWalk.toNatUp, reduceCtorEq, hw, hz]
        exact ret_f1 (by simp only [wx, wy, wz, stV, seval, IntWalk.iteOmega, IntWalk.toNatUp, reduceCtorEq, hl])
theorem mlvs_c (G : Glob) (seed : List UInt8) (h : Nat) (hs : seed.length = 32) (hh : h ≤ 6) : Den Tryd.prog G 46 [.sl (seed.map bD), .int .i64 (h : Int)] (.w (.c (.d (sls (lvsM seed h))))) := den_ro (mlvs_f G seed h hs hh)
def sf_mpub : SFn := ⟨2, 21,
  .seq (.reg [⟨(some 4), .mv (.k (.c .nil)), none⟩,
    ⟨(some 5), .mv (.k (.c (.d (.int .i64 0)))), none⟩])
  (.seq (.seq (.reg [⟨(some 6), .mv (.t 0), none⟩,
    ⟨(some 7), .len (.t 6), none⟩,
    ⟨(some 8), .bin .neq (.t 7) (.k (.c (.d (.int .i64 32)))), none⟩])
  (.cond (.t 8) (.seq (.reg [⟨(some 4), .mv (.k (.c .nil)), none⟩,
     ⟨(some 5), .mv (.k (.c (.d (.int .i64 5)))), none⟩])
   (.ret))
   (.skip)))
  (.seq (.seq (.reg [⟨(some 9), .mv (.t 1), none⟩,
    ⟨(some 10), .bin .lss (.t 9) (.k (.c (.d (.int .i64 0)))), none⟩,
    ⟨(some 11), .mv (.t 10), none⟩,
    ⟨(some 12), .mv (.t 1), (some (11, false))⟩,
    ⟨(some 13), .bin .gtr (.t 12) (.k (.c (.d (.int .i64 6)))), (some (11, false))⟩,
    ⟨(some 14), .pick (.t 11) (.k (.c (.d (.bool true)))) (.t 13), none⟩])
  (.cond (.t 14) (.seq (.reg [⟨(some 4), .mv (.k (.c .nil)), none⟩,
     ⟨(some 5), .mv (.k (.c (.d (.int .i64 4)))), none⟩])
   (.ret))
   (.skip)))
  (.seq (.reg [⟨(some 15), .mv (.t 0), none⟩,
    ⟨(some 16), .mv (.t 1), none⟩,
    ⟨(some 17), .call 46 [(.t 15), (.t 16)] none, none⟩,
    ⟨(some 18), .call 47 [(.t 17)] (some (0, 1)), none⟩,
    ⟨(some 19), .extract (.t 18) 0, none⟩,
    ⟨(some 20), .extract (.t 18) 1, none⟩,
    ⟨(some 4), .mv (.t 19), none⟩,
    ⟨(some 5), .mv (.t 20), none⟩])
  (.ret)))),
  [(4, none), (5, none)]⟩
theorem cf_mpub : compFn Tryd.prog { own := [], comp := [(18, 0)], frz := [], nils := [] } Tryd.f28 = some sf_mpub := by kernel_rfl
set_option maxHeartbeats 1600000 in
theorem mpub_f (G : Glob) (hF : G.at 0 = some (.ra (firstK.map wD))) (hG : G.at 1 = some (.ra (constK.map wD))) (seed : List UInt8) (h : Int) : Den Tryd.prog G 28 [.sl (seed.map bD), .int .i64 h] (.tup [.c (.fr 1 ((spubV seed h).map bD)), .c (.d (.int .i64 (sckE seed h)))]) := by
  refine den_walk Tryd.func28 cf_mpub rfl rfl ?_
  by_cases k1 : seed.length = 32
  · by_cases k2 : h < 0
    · have hE : sckE seed h = 4 := by unfold sckE; rw [if_neg (by omega), if_pos (.inl k2)]
      have hV : spubV seed h = [] := if_neg (by rw [hE]; decide)
      rw [hE, hV]
      simp only [sf_mpub, putAll, wx, wy, wz, stV, seval, IntWalk.iteOmega, IntWalk.toNatUp, reduceCtorEq, k1]
      exact ret_f2 (by simp only [wx, wy, wz, stV, seval, IntWalk.iteOmega, IntWalk.toNatUp, reduceCtorEq]) (by simp only [wx, wy, wz, stV, seval, IntWalk.iteOmega, IntWalk.toNatUp, reduceCtorEq])
    · by_cases k3 : 6 < h
      · have hE : sckE seed h = 4 := by unfold sckE; rw [if_neg (by omega), if_pos (.inr k3)]
        have hV : spubV seed h = [] := if_neg (by rw [hE]; decide)
        rw [hE, hV]
        simp only [sf_mpub, putAll, wx, wy, wz, stV, seval, IntWalk.iteOmega, IntWalk.toNatUp, reduceCtorEq, k1]
        exact ret_f2 (by simp only [wx, wy, wz, stV, seval, IntWalk.iteOmega, IntWalk.toNatUp, reduceCtorEq]) (by simp only [wx, wy, wz, stV, seval, IntWalk.iteOmega, IntWalk.toNatUp, reduceCtorEq])
      · have hE : sckE seed h = 0 := sckE_in k1 (by omega) (by omega)
        have hV : spubV seed h = rootM (lvsM seed h.toNat) := if_pos hE
        rw [hE, hV]
        obtain ⟨m, rfl⟩ := Int.eq_ofNat_of_zero_le (show 0 ≤ h by omega)
        have et : ((m : Int).toNat) = m := rfl
        rw [et]
        have hl := mlvs_c G seed m k1 (by omega)
        have hr := rroot_f G hF hG (lvsM seed m) (lvs_big (by omega)).1 (lvs_big (by omega)).2
        rw [(rootV_ok (by omega)).1, (rootV_ok (by omega)).2] at hr
        generalize rootM (lvsM seed m) = z at *
        simp only [sf_mpub, putAll, wx, wy, wz, stV, seval, IntWalk.iteOmega, IntWalk.toNatUp, reduceCtorEq, k1]
        refine st_call (hl) rfl (.inl rfl) ?_
        simp only [wx, wy, wz, stV, seval, IntWalk.iteOmega, IntWalk.toNatUp, reduceCtorEq]
        refine st_call (hr) rfl (.inl rfl) ?_
        simp only [wx, wy, wz, stV, seval, IntWalk.iteOmega, IntWalk.toNatUp, reduceCtorEq]
        exact ret_f2 (by simp only [wx, wy, wz, stV, seval, IntWalk.iteOmega, IntWalk.toNatUp, reduceCtorEq]) (by simp only [wx, wy, wz, stV, seval, IntWalk.iteOmega, IntWalk.toNatUp, reduceCtorEq])
  · have hE : sckE seed h = 5 := if_pos k1
    have hV : spubV seed h = [] := if_neg (by rw [hE]; decide)
    rw [hE, hV]
    simp only [sf_mpub, putAll, wx, wy, wz, stV, seval, IntWalk.iteOmega, IntWalk.toNatUp, reduceCtorEq]
    exact ret_f2 (by simp only [wx, wy, wz, stV, seval, IntWalk.iteOmega, IntWalk.toNatUp, reduceCtorEq]) (by simp only [wx, wy, wz, stV, seval, IntWalk.iteOmega, IntWalk.toNatUp, reduceCtorEq])
theorem mpub_c (G : Glob) (hF : G.at 0 = some (.ra (firstK.map wD))) (hG : G.at 1 = some (.ra (constK.map wD))) (seed : List UInt8) (h : Int) : Den Tryd.prog G 28 [.sl (seed.map bD), .int .i64 h] (.tup [.c (.d (.sl ((spubV seed h).map bD))), .c (.d (.int .i64 (sckE seed h)))]) := den_ro2 (mpub_f G hF hG seed h)
def sf_mdig : SFn := ⟨3, 15,
  .seq (.reg [⟨(some 6), .mv (.k (.c .nil)), none⟩])
  (.seq (.reg [⟨(some 7), .mv (.t 0), none⟩,
    ⟨(some 8), .mv (.t 1), none⟩,
    ⟨(some 9), .conv .u64 (.t 8), none⟩,
    ⟨(some 10), .call 51 [(.t 9), (.k (.c (.d (.int .i64 4))))] none, none⟩,
    ⟨(some 11), .mv (.t 2), none⟩,
    ⟨(some 12), .bldSl false 3 1 (.sl []) [(0, (.t 7)), (1, (.t 10)), (2, (.t 11))], none⟩,
    ⟨(some 13), .call 41 [(.t 12)] none, none⟩,
    ⟨(some 14), .call 87 [(.t 13)] none, none⟩,
    ⟨(some 6), .mv (.t 14), none⟩])
  (.ret)),
  [(6, none)]⟩
theorem cf_mdig : compFn Tryd.prog { own := [], comp := [], frz := [], nils := [] } Tryd.f50 = some sf_mdig := by kernel_rfl
theorem mdig_c (G : Glob) (n : Nat) (pub msg : List UInt8) (hn : n ≤ 9223372036854775807) (hp : pub.length ≤ 1000000000) (hm : msg.length ≤ 1000000000) : Den Tryd.prog G 50 [.sl (pub.map bD), .int .i64 (n : Int), .sl (msg.map bD)] (.w (.c (.d (.sl ((sdig pub n msg).map bD))))) := by
  refine den_walk Tryd.func50 cf_mdig rfl rfl ?_
  have w1 : IntKind.u64.wrap (n : Int) = (n : Int) := by rw [IntKind.wrap_u64]; omega
  have hq := rput_in G n 4 (by decide)
  have hj := rjoin_c G [pub, putL n 4, msg] (by simp) (by simp [putL_length]; omega)
  have hf : [pub, putL n 4, msg].flatten = pub ++ putL n 4 ++ msg := by simp
  rw [hf] at hj
  have hs := rshort_c G (pub ++ putL n 4 ++ msg) (by simp [putL_length]; omega)
  have hd : shortK (pub ++ putL n 4 ++ msg) = sdig pub n msg := rfl
  rw [hd] at hs
  generalize sdig pub n msg = y at *
  generalize pub ++ putL n 4 ++ msg = z at *
  simp only [sf_mdig, putAll, wx, wy, wz, stV, seval, IntWalk.iteOmega, IntWalk.toNatUp, reduceCtorEq, w1]
  refine st_call (hq) rfl (.inl rfl) ?_
  simp only [wx, wy, wz, stV, seval, IntWalk.iteOmega, IntWalk.toNatUp, reduceCtorEq]
  refine st_call (hj) rfl (.inl rfl) ?_
  simp only [wx, wy, wz, stV, seval, IntWalk.iteOmega, IntWalk.toNatUp, reduceCtorEq]
  refine st_call (hs) rfl (.inl rfl) ?_
  simp only [wx, wy, wz, stV, seval, IntWalk.iteOmega, IntWalk.toNatUp, reduceCtorEq]
  exact ret_d1 (by simp only [wx, wy, wz, stV, seval, IntWalk.iteOmega, IntWalk.toNatUp, reduceCtorEq])
def sf_msgn : SFn := ⟨2, 86,
  .seq (.reg [⟨(some 2), .box .roBox (.t 0), none⟩,
    ⟨(some 4), .alloc [.nil, (.d (.int .i64 0)), (.d (.int .i64 0))], none⟩,
    ⟨(some 5), .mv (.k (.c .nil)), none⟩,
    ⟨(some 6), .mv (.k (.c (.d (.int .i64 0)))), none⟩])
  (.seq (.seq (.reg [⟨(some 15), .load (.ag 3) (.t 2), none⟩,
    ⟨(some 16), .call 17 [(.t 15)] none, none⟩,
    ⟨(some 17), .un .not (.t 16), none⟩])
  (.cond (.t 17) (.seq (.reg [⟨(some 18), .build [.nil, (.d (.int .i64 0)), (.d (.int .i64 0))] [], none⟩,
     ⟨none, .store (.ag 3) (.t 4) (.t 18), none⟩,
     ⟨(some 5), .mv (.k (.c .nil)), none⟩,
     ⟨(some 6), .mv (.k (.c (.d (.int .i64 3)))), none⟩])
   (.ret))
   (.skip)))
  (.seq (.seq (.reg [⟨(some 19), .fieldAddr 2 (.t 2), none⟩,
    ⟨(some 20), .load .sc (.t 19), none⟩,
    ⟨(some 21), .fieldAddr 1 (.t 2), none⟩,
    ⟨(some 22), .load .sc (.t 21), none⟩,
    ⟨(some 23), .conv .u64 (.t 22), none⟩,
    ⟨(some 24), .bin .shl (.k (.c (.d (.int .i64 1)))) (.t 23), none⟩,
    ⟨(some 25), .bin .eql (.t 20) (.t 24), none⟩])
  (.cond (.t 25) (.seq (.reg [⟨(some 26), .build [.nil, (.d (.int .i64 0)), (.d (.int .i64 0))] [], none⟩,
     ⟨none, .store (.ag 3) (.t 4) (.t 26), none⟩,
     ⟨(some 5), .mv (.k (.c .nil)), none⟩,
     ⟨(some 6), .mv (.k (.c (.d (.int .i64 7)))), none⟩])
   (.ret))
   (.skip)))
  (.seq (.seq (.reg [⟨(some 27), .mv (.t 1), none⟩,
    ⟨(some 28), .len (.t 27), none⟩,
    ⟨(some 29), .bin .gtr (.t 28) (.k (.c (.d (.int .i64 65535)))), none⟩])
  (.cond (.t 29) (.seq (.reg [⟨(some 30), .build [.nil, (.d (.int .i64 0)), (.d (.int .i64 0))] [], none⟩,
     ⟨none, .store (.ag 3) (.t 4) (.t 30), none⟩,
     ⟨(some 5), .mv (.k (.c .nil)), none⟩,
     ⟨(some 6), .mv (.k (.c (.d (.int .i64 2)))), none⟩])
   (.ret))
   (.skip)))
  (.seq (.reg [⟨(some 31), .fieldAddr 0 (.t 2), none⟩,
    ⟨(some 32), .load .sc (.t 31), none⟩,
    ⟨(some 33), .fieldAddr 1 (.t 2), none⟩,
    ⟨(some 34), .load .sc (.t 33), none⟩,
    ⟨(some 35), .call 46 [(.t 32), (.t 34)] none, none⟩,
    ⟨(some 7), .mv (.t 35), none⟩])
  (.seq (.reg [⟨(some 37), .mv (.t 7), none⟩,
    ⟨(some 38), .call 47 [(.t 37)] none, none⟩,
    ⟨(some 36), .mv (.t 38), none⟩,
    ⟨(some 39), .extract (.t 36) 0, none⟩,
    ⟨(some 40), .extract (.t 36) 1, none⟩,
    ⟨(some 8), .mv (.t 39), none⟩,
    ⟨(some 9), .mv (.t 40), none⟩])
  (.seq (.reg [⟨(some 42), .mv (.t 7), none⟩,
    ⟨(some 43), .fieldAddr 2 (.t 2), none⟩,
    ⟨(some 44), .load .sc (.t 43), none⟩,
    ⟨(some 45), .call 48 [(.t 42), (.t 44)] none, none⟩,
    ⟨(some 41), .mv (.t 45), none⟩,
    ⟨(some 46), .extract (.t 41) 0, none⟩,
    ⟨(some 47), .extract (.t 41) 1, none⟩,
    ⟨(some 10), .mv (.t 46), none⟩,
    ⟨(some 11), .mv (.t 47), none⟩])
  (.seq (.reg [⟨(some 49), .fieldAddr 0 (.t 2), none⟩,
    ⟨(some 50), .load .sc (.t 49), none⟩,
    ⟨(some 51), .fieldAddr 2 (.t 2), none⟩,
    ⟨(some 52), .load .sc (.t 51), none⟩,
    ⟨(some 53), .mv (.t 8), none⟩,
    ⟨(some 54), .fieldAddr 2 (.t 2), none⟩,
    ⟨(some 55), .load .sc (.t 54), none⟩,
    ⟨(some 56), .mv (.t 1), none⟩,
    ⟨(some 57), .call 50 [(.t 53), (.t 55), (.t 56)] none, none⟩,
    ⟨(some 58), .call 49 [(.t 50), (.t 52), (.t 57)] none, none⟩,
    ⟨(some 48), .mv (.t 58), none⟩,
    ⟨(some 59), .extract (.t 48) 0, none⟩,
    ⟨(some 60), .extract (.t 48) 1, none⟩,
    ⟨(some 12), .mv (.t 59), none⟩,
    ⟨(some 13), .mv (.t 60), none⟩])
  (.seq (.reg [⟨(some 61), .fieldAddr 1 (.t 2), none⟩,
    ⟨(some 62), .load .sc (.t 61), none⟩,
    ⟨(some 63), .conv .u8 (.t 62), none⟩,
    ⟨(some 64), .bldSl false 1 1 (.int .u8 0) [(0, (.t 63))], none⟩,
    ⟨(some 65), .fieldAddr 2 (.t 2), none⟩,
    ⟨(some 66), .load .sc (.t 65), none⟩,
    ⟨(some 67), .conv .u64 (.t 66), none⟩,
    ⟨(some 68), .call 51 [(.t 67), (.k (.c (.d (.int .i64 4))))] none, none⟩,
    ⟨(some 69), .mv (.t 12), none⟩,
    ⟨(some 70), .call 41 [(.t 69)] none, none⟩,
    ⟨(some 71), .mv (.t 10), none⟩,
    ⟨(some 72), .call 41 [(.t 71)] none, none⟩,
    ⟨(some 73), .bldSl false 4 1 (.sl []) [(0, (.t 64)), (1, (.t 68)), (2, (.t 70)), (3, (.t 72))], none⟩,
    ⟨(some 74), .call 41 [(.t 73)] none, none⟩,
    ⟨(some 14), .mv (.t 74), none⟩])
  (.seq (.reg [⟨(some 75), .fieldAddr 0 (.t 2), none⟩,
    ⟨(some 76), .load .sc (.t 75), none⟩,
    ⟨(some 77), .bldSl false 1 1 (.sl []) [(0, (.t 76))], none⟩,
    ⟨(some 78), .call 41 [(.t 77)] none, none⟩,
    ⟨(some 79), .fieldAddr 1 (.t 2), none⟩,
    ⟨(some 80), .load .sc (.t 79), none⟩,
    ⟨(some 81), .fieldAddr 2 (.t 2), none⟩,
    ⟨(some 82), .load .sc (.t 81), none⟩,
    ⟨(some 83), .bin .add (.t 82) (.k (.c (.d (.int .i64 1)))), none⟩,
    ⟨(some 84), .build [.nil, (.d (.int .i64 0)), (.d (.int .i64 0))] [(0, 1, (.t 78)), (1, 1, (.t 80)), (2, 1, (.t 83))], none⟩,
    ⟨(some 85), .mv (.t 14), none⟩,
    ⟨none, .store (.ag 3) (.t 4) (.t 84), none⟩,
    ⟨(some 5), .mv (.t 85), none⟩,
    ⟨(some 6), .mv (.k (.c (.d (.int .i64 0)))), none⟩])
  (.ret)))))))))),
  [(4, (some (.ag 3))), (5, none), (6, none)]⟩
theorem cf_msgn : compFn Tryd.prog { own := [], comp := [], frz := [], nils := [] } Tryd.f13 = some sf_msgn := by kernel_rfl
set_option maxHeartbeats 3200000 in
theorem msgn_c (G : Glob) (hF : G.at 0 = some (.ra (firstK.map wD))) (hG : G.at 1 = some (.ra (constK.map wD))) (seed : List UInt8) (h n : Int) (msg : List UInt8) (hm0 : msg.length ≤ 9223372036854775807) : Den Tryd.prog G 13 [keyD seed h n, .sl (msg.map bD)] (.tup [.c (.d (sgS seed h n msg)), .c (.d (.sl ((sgV' seed h n msg).map bD))), .c (.d (.int .i64 (sgE seed h n msg)))]) := by
  refine den_walk Tryd.func13 cf_msgn rfl rfl ?_
  have hk := mval_c G seed h n
  unfold sgS sgV'
  cases e : svalB seed h n
  · have hE : sgE seed h n msg = 3 := by unfold sgE; rw [if_neg (by rw [e]; decide)]
    rw [hE, if_neg (by decide), if_neg (by decide)]
    rw [e] at hk
    simp only [sf_msgn, putAll, wx, wy, wz, stV, seval, IntWalk.iteOmega, IntWalk.toNatUp, reduceCtorEq]
    refine st_call (hk) rfl (.inl rfl) ?_
    simp only [wx, wy, wz, stV, seval, IntWalk.iteOmega, IntWalk.toNatUp, reduceCtorEq]
    exact ret_d3 (by simp only [wx, wy, wz, stV, seval, IntWalk.iteOmega, IntWalk.toNatUp, reduceCtorEq] <;> rfl) (by simp only [wx, wy, wz, stV, seval, IntWalk.iteOmega, IntWalk.toNatUp, reduceCtorEq] <;> rfl) (by simp only [wx, wy, wz, stV, seval, IntWalk.iteOmega, IntWalk.toNatUp, reduceCtorEq])
  · obtain ⟨k1, k2, k3, k4, k5⟩ := sval_ok e
    rw [e] at hk
    obtain ⟨m, rfl⟩ := Int.eq_ofNat_of_zero_le k2
    obtain ⟨i, rfl⟩ := Int.eq_ofNat_of_zero_le k4
    have et : ((m : Int).toNat) = m := rfl
    have ei : ((i : Int).toNat) = i := rfl
    rw [et] at k5
    have h64 := pow6 (h := m) (by omega)
    have hs := shl6u (h := m) (by omega)
    have hw := wru6 (h := m) (by omega)
    by_cases h1 : i = 2 ^ m
    · have hE : sgE seed (m : Int) (i : Int) msg = 7 := by unfold sgE; rw [if_pos e, et, if_pos (by omega)]
      rw [hE, if_neg (by decide), if_neg (by decide)]
      generalize 2 ^ m = N at *
      simp only [sf_msgn, putAll, wx, wy, wz, stV, seval, IntWalk.iteOmega, IntWalk.toNatUp, reduceCtorEq]
      refine st_call (hk) rfl (.inl rfl) ?_
      simp only [hw, hs, wx, wy, wz, stV, seval, IntWalk.iteOmega, IntWalk.toNatUp, reduceCtorEq]
      exact ret_d3 (by simp only [wx, wy, wz, stV, seval, IntWalk.iteOmega, IntWalk.toNatUp, reduceCtorEq] <;> rfl) (by simp only [wx, wy, wz, stV, seval, IntWalk.iteOmega, IntWalk.toNatUp, reduceCtorEq] <;> rfl) (by simp only [wx, wy, wz, stV, seval, IntWalk.iteOmega, IntWalk.toNatUp, reduceCtorEq])
    · by_cases h2 : 65535 < msg.length
      · have hE : sgE seed (m : Int) (i : Int) msg = 2 := by unfold sgE; rw [if_pos e, et, if_neg (by omega), if_pos h2]
        rw [hE, if_neg (by decide), if_neg (by decide)]
        generalize 2 ^ m = N at *
        simp only [sf_msgn, putAll, wx, wy, wz, stV, seval, IntWalk.iteOmega, IntWalk.toNatUp, reduceCtorEq]
        refine st_call (hk) rfl (.inl rfl) ?_
        simp only [hw, hs, wx, wy, wz, stV, seval, IntWalk.iteOmega, IntWalk.toNatUp, reduceCtorEq]
        exact ret_d3 (by simp only [wx, wy, wz, stV, seval, IntWalk.iteOmega, IntWalk.toNatUp, reduceCtorEq] <;> rfl) (by simp only [wx, wy, wz, stV, seval, IntWalk.iteOmega, IntWalk.toNatUp, reduceCtorEq] <;> rfl) (by simp only [wx, wy, wz, stV, seval, IntWalk.iteOmega, IntWalk.toNatUp, reduceCtorEq])
      · have hE : sgE seed (m : Int) (i : Int) msg = 0 := by unfold sgE; rw [if_pos e, et, if_neg (by omega), if_neg h2]
        rw [hE, if_pos rfl, if_pos rfl, et, ei]
        have hm : m ≤ 6 := by omega
        have hn : i < 2 ^ m := by omega
        have wi : IntKind.u64.wrap (i : Int) = (i : Int) := by rw [IntKind.wrap_u64]; omega
        have hj := rjoin_c G [seed] (by simp) (by simp; omega)
        have hf : [seed].flatten = seed := by simp
        rw [hf] at hj
        have c1 := mlvs_c G seed m k1 hm
        have c2 := rroot_c G hF hG (lvsM seed m) (lvs_big hm).1 (lvs_big hm).2
        rw [(rootV_ok hm).1, (rootV_ok hm).2] at c2
        have c3 := rpath_c G hF hG (lvsM seed m) (i : Int) (lvs_big hm).1 (lvs_big hm).2
        rw [(spath_ok hm hn).1, (spath_ok hm hn).2] at c3
        have hr := root_32 (lvsM seed m)
        have c4 := mdig_c G i (rootM (lvsM seed m)) msg (by omega) (by omega) (by omega)
        have hd := sdig_len (rootM (lvsM seed m)) i msg
        have c5 := rsgn_c G seed (i : Int) (sdig (rootM (lvsM seed m)) i msg) (by omega)
        rw [(ssig_ok k1 (by omega) hd).1, (ssig_ok k1 (by omega) hd).2] at c5
        have hq := rput_in G i 4 (by decide)
        have hpl := spath_len seed (h := m) (n := i) (by omega)
        have he2 : ∀ x ∈ sigM seed i (sdig (rootM (lvsM seed m)) i msg), x.length = 16 := sig_mem
        have hp2 : ∀ x ∈ pathM (lvsM seed m) i, x.length = 32 := path_32 _ _ _ rfl
        have l1 := cutf_len he2
        have l2 := cutf_len hp2
        have he : (sigM seed i (sdig (rootM (lvsM seed m)) i msg)).length = 35 := by unfold sigM; rw [sigN_len]
        have hj1 := rjoin_c G (sigM seed i (sdig (rootM (lvsM seed m)) i msg)) (by omega) (by omega)
        have hj2 := rjoin_c G (pathM (lvsM seed m) i) (by omega) (by omega)
        have hj3 := rjoin_c G [[UInt8.ofNat m], putL i 4, (sigM seed i (sdig (rootM (lvsM seed m)) i msg)).flatten, (pathM (lvsM seed m) i).flatten] (by simp) (by simp only [List.flatten_cons, List.flatten_nil, List.length_append, List.append_nil, l1, l2, putL_length, List.length_singleton]; omega)
        have hf3 : [[UInt8.ofNat m], putL i 4, (sigM seed i (sdig (rootM (lvsM seed m)) i msg)).flatten, (pathM (lvsM seed m) i).flatten].flatten = sgM seed m i msg := by unfold sgM sgB; simp
        rw [hf3] at hj3
        have hbo := byte_of m
        have w2 : IntKind.u8.wrap (m : Int) = (m : Int) := by rw [IntKind.wrap_u8]; omega
        rw [w2] at hbo
        simp only [List.map_cons, List.map_nil] at hj3
        rw [← hbo] at hj3
        generalize sgM seed m i msg = z at *
        generalize sigM seed i (sdig (rootM (lvsM seed m)) i msg) = z1 at *
        generalize sdig (rootM (lvsM seed m)) i msg = d at *
        generalize pathM (lvsM seed m) i = z2 at *
        generalize rootM (lvsM seed m) = r at *
        generalize lvsM seed m = l at *
        generalize 2 ^ m = N at *
        simp only [sf_msgn, putAll, wx, wy, wz, stV, seval, IntWalk.iteOmega, IntWalk.toNatUp, reduceCtorEq]
        refine st_call (hk) rfl (.inl rfl) ?_
        simp only [hw, hs, wx, wy, wz, stV, seval, IntWalk.iteOmega, IntWalk.toNatUp, reduceCtorEq]
        refine st_call (c1) rfl (.inl rfl) ?_
        simp only [wx, wy, wz, stV, seval, IntWalk.iteOmega, IntWalk.toNatUp, reduceCtorEq]
        refine st_call (c2) rfl (.inl rfl) ?_
        simp only [wx, wy, wz, stV, seval, IntWalk.iteOmega, IntWalk.toNatUp, reduceCtorEq]
        refine st_call (c3) rfl (.inl rfl) ?_
        simp only [wx, wy, wz, stV, seval, IntWalk.iteOmega, IntWalk.toNatUp, reduceCtorEq]
        refine st_call (c4) rfl (.inl rfl) ?_
        simp only [wx, wy, wz, stV, seval, IntWalk.iteOmega, IntWalk.toNatUp, reduceCtorEq]
        refine st_call (c5) rfl (.inl rfl) ?_
        simp only [wi, wx, wy, wz, stV, seval, IntWalk.iteOmega, IntWalk.toNatUp, reduceCtorEq]
        refine st_call (hq) rfl (.inl rfl) ?_
        simp only [wx, wy, wz, stV, seval, IntWalk.iteOmega, IntWalk.toNatUp, reduceCtorEq]
        refine st_call (hj1) rfl (.inl rfl) ?_
        simp only [wx, wy, wz, stV, seval, IntWalk.iteOmega, IntWalk.toNatUp, reduceCtorEq]
        refine st_call (hj2) rfl (.inl rfl) ?_
        simp only [wx, wy, wz, stV, seval, IntWalk.iteOmega, IntWalk.toNatUp, reduceCtorEq]
        refine st_call (hj3) rfl (.inl rfl) ?_
        simp only [wx, wy, wz, stV, seval, IntWalk.iteOmega, IntWalk.toNatUp, reduceCtorEq]
        refine st_call (hj) rfl (.inl rfl) ?_
        simp only [wx, wy, wz, stV, seval, IntWalk.iteOmega, IntWalk.toNatUp, reduceCtorEq]
        exact ret_d3 (by simp only [wx, wy, wz, stV, seval, IntWalk.iteOmega, IntWalk.toNatUp, reduceCtorEq] <;> rfl) (by simp only [wx, wy, wz, stV, seval, IntWalk.iteOmega, IntWalk.toNatUp, reduceCtorEq] <;> rfl) (by simp only [wx, wy, wz, stV, seval, IntWalk.iteOmega, IntWalk.toNatUp, reduceCtorEq])
theorem get_ltQ {l : List UInt8} {j : Nat} (h : j < l.length) : l[j]? = some (l.getD j 0) := by
  rw [List.getElem?_eq_getElem h, List.getD_eq_getElem?_getD, List.getElem?_eq_getElem h]; rfl
theorem ret_d5 {σ : St} {p q r s t : Nat × Option Kd} {x y z u v : D} (h1 : (resW σ p).bind (toW σ.h) = some x) (h2 : (resW σ q).bind (toW σ.h) = some y) (h3 : (resW σ r).bind (toW σ.h) = some z) (h4 : (resW σ s).bind (toW σ.h) = some u) (h5 : (resW σ t).bind (toW σ.h) = some v) : RetOk σ [p, q, r, s, t] (.tup [.c (.d x), .c (.d y), .c (.d z), .c (.d u), .c (.d v)]) := by
  obtain ⟨w1, e1, f1⟩ := Option.bind_eq_some_iff.1 h1
  obtain ⟨w2, e2, f2⟩ := Option.bind_eq_some_iff.1 h2
  obtain ⟨w3, e3, f3⟩ := Option.bind_eq_some_iff.1 h3
  obtain ⟨w4, e4, f4⟩ := Option.bind_eq_some_iff.1 h4
  obtain ⟨w5, e5, f5⟩ := Option.bind_eq_some_iff.1 h5
  exact ⟨[w1, w2, w3, w4, w5], by simp [allSome, e1, e2, e3, e4, e5], .inr (.cons ⟨_, rfl, f1⟩ (.cons ⟨_, rfl, f2⟩ (.cons ⟨_, rfl, f3⟩ (.cons ⟨_, rfl, f4⟩ (.cons ⟨_, rfl, f5⟩ .nil)))))⟩
/-! ### The parts of a signature -/
def cuV (id : Nat) : Nat → V
  | 0 => .w (.c .nil)
  | j + 1 => .w (.c (.own id 1 0 (j + 1)))
def cuH (id : Nat) (b : List UInt8) (n : Nat) : Nat → List (Nat × Ob)
  | 0 => []
  | j + 1 => [(id, .row 1 ((cutM b n (j + 1)).map fun l => D.sl (l.map bD)))]
theorem cut_step (b : List UInt8) (n j : Nat) : ((cutM b n j).map fun l => D.sl (l.map bD)) ++ [D.sl (((b.drop (n * j)).take n).map bD)] = (cutM b n (j + 1)).map fun l => D.sl (l.map bD) := by
  rw [← cutM_succ, List.map_append]; rfl
def prSt0 (b c : List UInt8) (m i : Nat) (j : Nat) : St := ⟨ofL [(2, .w (.c (.d (.int .i64 (m : Int))))), (3, .w (.c (.d (.int .i64 (i : Int))))), (4, cuV 1 j), (5, .w (.c .nil)), (7, .w (.c (.d (.sl ((c.drop (16 * j)).map bD))))), (8, .w (.c (.d (.int .i64 (j : Int)))))], hL (cuH 1 c 16 j), uL [1]⟩
def prSt1 (e : List (List UInt8)) (c : List UInt8) (m i : Nat) (j : Nat) : St := ⟨ofL [(2, .w (.c (.d (.int .i64 (m : Int))))), (3, .w (.c (.d (.int .i64 (i : Int))))), (4, .w (.c (.own 1 1 0 35))), (5, cuV 2 j), (7, .w (.c (.d (.sl ((c.drop (32 * j)).map bD))))), (9, .w (.c (.d (.int .i64 (j : Int)))))], hL ((1, .row 1 (e.map fun l => D.sl (l.map bD))) :: cuH 2 c 32 j), uL [1, 2]⟩
def lp_mprt_0 : SCode :=
  .seq (.seq (.reg [⟨(some 40), .mv (.t 8), none⟩,
    ⟨(some 41), .bin .lss (.t 40) (.k (.c (.d (.int .i64 35)))), none⟩])
  (.cond (.t 41) (.skip)
   (.exit 0)))
  (.seq (.block 1 (.seq (.reg [⟨(some 44), .mv (.t 4), none⟩,
     ⟨(some 45), .mv (.t 7), none⟩,
     ⟨(some 46), .slice 1 (.t 45) none (some (.k (.c (.d (.int .i64 16))))) none, none⟩,
     ⟨(some 47), .bldSl false 1 1 (.sl []) [(0, (.t 46))], none⟩,
     ⟨(some 48), .app false 1 24 (.t 44) (.t 47), none⟩,
     ⟨(some 4), .mv (.t 48), none⟩])
   (.reg [⟨(some 49), .mv (.t 7), none⟩,
     ⟨(some 50), .slice 1 (.t 49) (some (.k (.c (.d (.int .i64 16))))) none none, none⟩,
     ⟨(some 7), .mv (.t 50), none⟩])))
  (.reg [⟨(some 42), .mv (.t 8), none⟩,
    ⟨(some 43), .bin .add (.t 42) (.k (.c (.d (.int .i64 1)))), none⟩,
    ⟨(some 8), .mv (.t 43), none⟩]))
def lp_mprt_1 : SCode :=
  .seq (.seq (.reg [⟨(some 51), .mv (.t 9), none⟩,
    ⟨(some 52), .mv (.t 2), none⟩,
    ⟨(some 53), .bin .lss (.t 51) (.t 52), none⟩])
  (.cond (.t 53) (.skip)
   (.exit 2)))
  (.seq (.block 3 (.seq (.reg [⟨(some 56), .mv (.t 5), none⟩,
     ⟨(some 57), .mv (.t 7), none⟩,
     ⟨(some 58), .slice 1 (.t 57) none (some (.k (.c (.d (.int .i64 32))))) none, none⟩,
     ⟨(some 59), .bldSl false 1 1 (.sl []) [(0, (.t 58))], none⟩,
     ⟨(some 60), .app false 1 24 (.t 56) (.t 59), none⟩,
     ⟨(some 5), .mv (.t 60), none⟩])
   (.reg [⟨(some 61), .mv (.t 7), none⟩,
     ⟨(some 62), .slice 1 (.t 61) (some (.k (.c (.d (.int .i64 32))))) none none, none⟩,
     ⟨(some 7), .mv (.t 62), none⟩])))
  (.reg [⟨(some 54), .mv (.t 9), none⟩,
    ⟨(some 55), .bin .add (.t 54) (.k (.c (.d (.int .i64 1)))), none⟩,
    ⟨(some 9), .mv (.t 55), none⟩]))
def sf_mprt : SFn := ⟨1, 67,
  .seq (.reg [⟨(some 2), .mv (.k (.c (.d (.int .i64 0)))), none⟩,
    ⟨(some 3), .mv (.k (.c (.d (.int .i64 0)))), none⟩,
    ⟨(some 4), .mv (.k (.c .nil)), none⟩,
    ⟨(some 5), .mv (.k (.c .nil)), none⟩,
    ⟨(some 6), .mv (.k (.c (.d (.bool false)))), none⟩])
  (.seq (.seq (.reg [⟨(some 10), .mv (.t 0), none⟩,
    ⟨(some 11), .len (.t 10), none⟩,
    ⟨(some 12), .bin .lss (.t 11) (.k (.c (.d (.int .i64 565)))), none⟩])
  (.cond (.t 12) (.seq (.reg [⟨(some 2), .mv (.k (.c (.d (.int .i64 0)))), none⟩,
     ⟨(some 3), .mv (.k (.c (.d (.int .i64 0)))), none⟩,
     ⟨(some 4), .mv (.k (.c .nil)), none⟩,
     ⟨(some 5), .mv (.k (.c .nil)), none⟩,
     ⟨(some 6), .mv (.k (.c (.d (.bool false)))), none⟩])
   (.ret))
   (.skip)))
  (.seq (.reg [⟨(some 13), .mv (.t 0), none⟩,
    ⟨(some 14), .idxSl 1 (.t 13) (.k (.c (.d (.int .i64 0)))), none⟩,
    ⟨(some 15), .load .sc (.t 14), none⟩,
    ⟨(some 16), .conv .i64 (.t 15), none⟩,
    ⟨(some 17), .mv (.t 0), none⟩,
    ⟨(some 18), .slice 1 (.t 17) (some (.k (.c (.d (.int .i64 1))))) (some (.k (.c (.d (.int .i64 5))))) none, none⟩,
    ⟨(some 19), .call 91 [(.t 18)] none, none⟩,
    ⟨(some 20), .conv .i64 (.t 19), none⟩,
    ⟨(some 2), .mv (.t 16), none⟩,
    ⟨(some 3), .mv (.t 20), none⟩])
  (.seq (.seq (.reg [⟨(some 21), .mv (.t 2), none⟩,
    ⟨(some 22), .bin .gtr (.t 21) (.k (.c (.d (.int .i64 6)))), none⟩,
    ⟨(some 23), .mv (.t 22), none⟩,
    ⟨(some 24), .mv (.t 3), (some (23, false))⟩,
    ⟨(some 25), .mv (.t 2), (some (23, false))⟩,
    ⟨(some 26), .conv .u64 (.t 25), (some (23, false))⟩,
    ⟨(some 27), .bin .shl (.k (.c (.d (.int .i64 1)))) (.t 26), (some (23, false))⟩,
    ⟨(some 28), .bin .geq (.t 24) (.t 27), (some (23, false))⟩,
    ⟨(some 29), .pick (.t 23) (.k (.c (.d (.bool true)))) (.t 28), none⟩,
    ⟨(some 30), .mv (.t 29), none⟩,
    ⟨(some 31), .mv (.t 0), (some (30, false))⟩,
    ⟨(some 32), .len (.t 31), (some (30, false))⟩,
    ⟨(some 33), .mv (.t 2), (some (30, false))⟩,
    ⟨(some 34), .bin .mul (.t 33) (.k (.c (.d (.int .i64 32)))), (some (30, false))⟩,
    ⟨(some 35), .bin .add (.k (.c (.d (.int .i64 565)))) (.t 34), (some (30, false))⟩,
    ⟨(some 36), .bin .neq (.t 32) (.t 35), (some (30, false))⟩,
    ⟨(some 37), .pick (.t 30) (.k (.c (.d (.bool true)))) (.t 36), none⟩])
  (.cond (.t 37) (.seq (.reg [⟨(some 2), .mv (.k (.c (.d (.int .i64 0)))), none⟩,
     ⟨(some 3), .mv (.k (.c (.d (.int .i64 0)))), none⟩,
     ⟨(some 4), .mv (.k (.c .nil)), none⟩,
     ⟨(some 5), .mv (.k (.c .nil)), none⟩,
     ⟨(some 6), .mv (.k (.c (.d (.bool false)))), none⟩])
   (.ret))
   (.skip)))
  (.seq (.reg [⟨(some 38), .mv (.t 0), none⟩,
    ⟨(some 39), .slice 1 (.t 38) (some (.k (.c (.d (.int .i64 5))))) none none, none⟩,
    ⟨(some 7), .mv (.t 39), none⟩])
  (.seq (.seq (.reg [⟨(some 8), .mv (.k (.c (.d (.int .i64 0)))), none⟩])
  (.block 0 (.loop lp_mprt_0)))
  (.seq (.seq (.reg [⟨(some 9), .mv (.k (.c (.d (.int .i64 0)))), none⟩])
  (.block 2 (.loop lp_mprt_1)))
  (.seq (.reg [⟨(some 63), .mv (.t 2), none⟩,
    ⟨(some 64), .mv (.t 3), none⟩,
    ⟨(some 65), .mv (.t 4), none⟩,
    ⟨(some 66), .mv (.t 5), none⟩,
    ⟨(some 2), .mv (.t 63), none⟩,
    ⟨(some 3), .mv (.t 64), none⟩,
    ⟨(some 4), .mv (.t 65), none⟩,
    ⟨(some 5), .mv (.t 66), none⟩,
    ⟨(some 6), .mv (.k (.c (.d (.bool true)))), none⟩])
  (.ret)))))))),
  [(2, none), (3, none), (4, none), (5, none), (6, none)]⟩
theorem cf_mprt : compFn Tryd.prog { own := [], comp := [], frz := [], nils := [] } Tryd.f55 = some sf_mprt := by kernel_rfl
set_option maxHeartbeats 3200000 in
theorem mprt_c (G : Glob) (b : List UInt8) (hb : b.length ≤ 140737488355328) : Den Tryd.prog G 55 [.sl (b.map bD)] (.tup [.c (.d (.int .i64 (if sfB b = true then (sfH b : Int) else 0))), .c (.d (.int .i64 (if sfB b = true then (sfI b : Int) else 0))), .c (.d (sls (if sfB b = true then sfE b else []))), .c (.d (sls (if sfB b = true then sfP b else []))), .c (.d (.bool (sfB b)))]) := by
  refine den_walk Tryd.func55 cf_mprt rfl rfl ?_
  by_cases h : 565 ≤ b.length
  · have g1 := rget_c G ((b.drop 1).take 4) (by rw [List.length_take, List.length_drop]; omega)
    have hI : getN ((b.drop 1).take 4) = sfI b := rfl
    rw [hI] at g1
    have i1 := sfI_lt (b := b) (by omega)
    have i2 := sfH_lt b
    have e0 : b[0]? = some (b.getD 0 0) := get_ltQ (by omega)
    have e0' : (b.map bD)[0]? = some (.int .u8 (sfH b : Int)) := by rw [List.getElem?_map, e0]; rfl
    by_cases hv : sfH b ≤ 6 ∧ sfI b < 2 ^ sfH b
    · have hs := shl6u hv.1
      have hw := wru6 hv.1
      have h64 := pow6 hv.1
      by_cases hl : b.length = 565 + 32 * sfH b
      · have hB : sfB b = true := decide_eq_true ⟨by omega, hv.1, hv.2, hl⟩
        rw [hB, if_pos rfl, if_pos rfl, if_pos rfl, if_pos rfl]
        have hld : (b.drop 5).length = 560 + 32 * sfH b := by rw [List.length_drop]; omega
        have ht : (b.drop 5).take (565 + 32 * sfH b - 5) = b.drop 5 := List.take_of_length_le (by rw [List.length_drop]; omega)
        have eE : cutM (b.drop 5) 16 35 = sfE b := rfl
        have eP : cutM (b.drop 565) 32 (sfH b) = sfP b := rfl
        have hd5 : (b.drop 5).drop 560 = b.drop 565 := by rw [List.drop_drop]
        have hlc : (b.drop 565).length = 32 * sfH b := by rw [List.length_drop]; omega
        have hle : (sfE b).length = 35 := cutM_len _ _ _
        have t35 : (sfE b).take 35 = sfE b := List.take_of_length_le (by omega)
        generalize sfE b = e at *
        generalize sfP b = p at *
        generalize sfI b = i at *
        generalize sfH b = m at *
        simp only [sf_mprt, putAll, wx, wy, wz, stV, seval, IntWalk.iteOmega, IntWalk.toNatUp, reduceCtorEq, e0', hw, hs]
        refine st_call (g1) rfl (.inl rfl) ?_
        simp only [hl, hw, hs, ht, wx, wy, wz, stV, seval, IntWalk.iteOmega, IntWalk.toNatUp, reduceCtorEq]
        refine loop_st (prSt0 b (b.drop 5) m i) (fun j => 35 - j) (fun j => j ≤ 35) 0 (Nat.zero_le _) ?_ ?_
        · refine ent_l (fun i => i) ?_ ?_ rfl rfl <;> simp only [wx, wex, wez, stV, seval, IntWalk.iteOmega, IntWalk.toNatUp, reduceCtorEq, cuV, cuH]
        · intro j hj
          by_cases hlt : j < 35
          · have hlj : ((b.drop 5).drop (16 * j)).length = 560 + 32 * m - 16 * j := by rw [List.length_drop, hld]
            have c1 : (16 : Int) ≤ ((560 + 32 * m - 16 * j : Nat) : Int) := by omega
            have hst := cut_step (b.drop 5) 16 j
            have hdr : ((b.drop 5).drop (16 * j)).drop 16 = (b.drop 5).drop (16 * (j + 1)) := by rw [List.drop_drop, Nat.mul_succ]
            have hcl := cutM_len (b.drop 5) 16 j
            have hcl1 := cutM_len (b.drop 5) 16 (j + 1)
            have htk : (((b.drop 5).drop (16 * j)).drop 16).take (560 + 32 * m - 16 * j - 16) = ((b.drop 5).drop (16 * j)).drop 16 := List.take_of_length_le (by rw [List.length_drop, hlj]; exact Nat.le_refl _)
            rcases j with _ | j
            · have hst0 : [D.sl (((b.drop 5).take 16).map bD)] = (cutM (b.drop 5) 16 1).map fun l => D.sl (l.map bD) := hst
              have htk0 : ((b.drop 5).drop 16).take ((b.drop 5).length - 16) = (b.drop 5).drop 16 := List.take_of_length_le (by rw [List.length_drop]; exact Nat.le_refl _)
              have hcl2 := cutM_len (b.drop 5) 16 1
              generalize b.drop 5 = c at *
              simp only [lp_mprt_0, prSt0, cuV, cuH, wx, wy, wz, stV, seval, IntWalk.iteOmega, IntWalk.toNatUp, reduceCtorEq, hlj, srcV, htk]
              refine lop_next (0 + 1) (by omega) (by omega) (ent_l (fun _ => 384) ?_ ?_ rfl rfl) <;> simp only [wx, wex, wez, stV, seval, IntWalk.iteOmega, IntWalk.toNatUp, reduceCtorEq, cuV, cuH, htk0, hst0, hcl2]
            · generalize b.drop 5 = c at *
              simp only [lp_mprt_0, prSt0, cuV, cuH, wx, wy, wz, stV, seval, IntWalk.iteOmega, IntWalk.toNatUp, reduceCtorEq, hlj, srcV, hcl, htk]
              refine lop_next (j + 1 + 1) (by omega) (by omega) (ent_l (fun _ => 384) ?_ ?_ rfl rfl) <;> simp only [wx, wex, wez, stV, seval, IntWalk.iteOmega, IntWalk.toNatUp, reduceCtorEq, cuV, cuH, hst, hcl1, hdr]
          · obtain rfl : j = 35 := by omega
            have v35 : cuV 1 35 = .w (.c (.own 1 1 0 35)) := rfl
            have h35 : cuH 1 (b.drop 5) 16 35 = [(1, .row 1 (e.map fun l => D.sl (l.map bD)))] := by
              show [(1, Ob.row 1 ((cutM (b.drop 5) 16 35).map fun l => D.sl (l.map bD)))] = _
              rw [eE]
            have h560 : (b.drop 5).drop (16 * 35) = b.drop 565 := hd5
            simp only [lp_mprt_0, prSt0, v35, h35, h560, wx, wy, wz, stV, seval, IntWalk.iteOmega, IntWalk.toNatUp, reduceCtorEq]
            generalize b.drop 565 = c at *
            refine loop_st (prSt1 e c m i) (fun j => m - j) (fun j => j ≤ m) 0 (Nat.zero_le _) ?_ ?_
            · refine ent_l (fun i => i) ?_ ?_ rfl rfl <;> simp only [wx, wex, wez, stV, seval, IntWalk.iteOmega, IntWalk.toNatUp, reduceCtorEq, cuV, cuH]
            · intro j hj
              by_cases hlt : j < m
              · have hlj : (c.drop (32 * j)).length = 32 * m - 32 * j := by rw [List.length_drop, hlc]
                have c1 : (32 : Int) ≤ ((32 * m - 32 * j : Nat) : Int) := by omega
                have hst := cut_step c 32 j
                have hdr : (c.drop (32 * j)).drop 32 = c.drop (32 * (j + 1)) := by rw [List.drop_drop, Nat.mul_succ]
                have hcl := cutM_len c 32 j
                have hcl1 := cutM_len c 32 (j + 1)
                have htk : ((c.drop (32 * j)).drop 32).take (32 * m - 32 * j - 32) = (c.drop (32 * j)).drop 32 := List.take_of_length_le (by rw [List.length_drop, hlj]; exact Nat.le_refl _)
                rcases j with _ | j
                · have hst0 : [D.sl ((c.take 32).map bD)] = (cutM c 32 1).map fun l => D.sl (l.map bD) := hst
                  have htk0 : (c.drop 32).take (c.length - 32) = c.drop 32 := List.take_of_length_le (by rw [List.length_drop]; exact Nat.le_refl _)
                  have hcl2 := cutM_len c 32 1
                  simp only [lp_mprt_1, prSt1, cuV, cuH, wx, wy, wz, stV, seval, IntWalk.iteOmega, IntWalk.toNatUp, reduceCtorEq, hlj, srcV, htk]
                  refine lop_next (0 + 1) (by omega) (by omega) (ent_l (fun i => if i = 1 then 1 else 480) ?_ ?_ rfl rfl) <;> simp only [wx, wex, wez, stV, seval, IntWalk.iteOmega, IntWalk.toNatUp, reduceCtorEq, cuV, cuH, htk0, hst0, hcl2]
                · simp only [lp_mprt_1, prSt1, cuV, cuH, wx, wy, wz, stV, seval, IntWalk.iteOmega, IntWalk.toNatUp, reduceCtorEq, hlj, srcV, hcl, htk]
                  refine lop_next (j + 1 + 1) (by omega) (by omega) (ent_l (fun i => if i = 1 then 1 else 480) ?_ ?_ rfl rfl) <;> simp only [wx, wex, wez, stV, seval, IntWalk.iteOmega, IntWalk.toNatUp, reduceCtorEq, cuV, cuH, hst, hcl1, hdr]
              · obtain rfl : j = m := by omega
                rcases j with _ | j
                · have hp0 : p = [] := by rw [← eP]; rfl
                  subst hp0
                  simp only [lp_mprt_1, prSt1, cuV, cuH, wx, wy, wz, stV, seval, IntWalk.iteOmega, IntWalk.toNatUp, reduceCtorEq]
                  exact ret_d5 (by simp only [wx, wy, wz, stV, seval, IntWalk.iteOmega, IntWalk.toNatUp, reduceCtorEq] <;> rfl) (by simp only [wx, wy, wz, stV, seval, IntWalk.iteOmega, IntWalk.toNatUp, reduceCtorEq] <;> rfl) (by simp only [wx, wy, wz, stV, seval, IntWalk.iteOmega, IntWalk.toNatUp, reduceCtorEq, hle, t35] <;> rfl) (by simp only [wx, wy, wz, stV, seval, IntWalk.iteOmega, IntWalk.toNatUp, reduceCtorEq] <;> rfl) (by simp only [wx, wy, wz, stV, seval, IntWalk.iteOmega, IntWalk.toNatUp, reduceCtorEq])
                · have hpl : p.length = j + 1 := by rw [← eP]; exact cutM_len _ _ _
                  have tp : p.take (j + 1) = p := List.take_of_length_le (by omega)
                  simp only [lp_mprt_1, prSt1, cuV, cuH, wx, wy, wz, stV, seval, IntWalk.iteOmega, IntWalk.toNatUp, reduceCtorEq, eP]
                  exact ret_d5 (by simp only [wx, wy, wz, stV, seval, IntWalk.iteOmega, IntWalk.toNatUp, reduceCtorEq] <;> rfl) (by simp only [wx, wy, wz, stV, seval, IntWalk.iteOmega, IntWalk.toNatUp, reduceCtorEq] <;> rfl) (by simp only [wx, wy, wz, stV, seval, IntWalk.iteOmega, IntWalk.toNatUp, reduceCtorEq, hle, t35] <;> rfl) (by simp only [wx, wy, wz, stV, seval, IntWalk.iteOmega, IntWalk.toNatUp, reduceCtorEq, hpl, tp] <;> rfl) (by simp only [wx, wy, wz, stV, seval, IntWalk.iteOmega, IntWalk.toNatUp, reduceCtorEq])
      · have hB : sfB b = false := decide_eq_false fun k => hl k.2.2.2
        rw [hB, if_neg (by decide), if_neg (by decide), if_neg (by decide), if_neg (by decide)]
        generalize sfI b = i at *
        generalize sfH b = m at *
        generalize 2 ^ m = N at *
        simp only [sf_mprt, putAll, wx, wy, wz, stV, seval, IntWalk.iteOmega, IntWalk.toNatUp, reduceCtorEq, e0']
        refine st_call (g1) rfl (.inl rfl) ?_
        simp only [hw, hs, wx, wy, wz, stV, seval, IntWalk.iteOmega, IntWalk.toNatUp, reduceCtorEq]
        exact ret_d5 (by simp only [wx, wy, wz, stV, seval, IntWalk.iteOmega, IntWalk.toNatUp, reduceCtorEq] <;> rfl) (by simp only [wx, wy, wz, stV, seval, IntWalk.iteOmega, IntWalk.toNatUp, reduceCtorEq] <;> rfl) (by simp only [wx, wy, wz, stV, seval, IntWalk.iteOmega, IntWalk.toNatUp, reduceCtorEq] <;> rfl) (by simp only [wx, wy, wz, stV, seval, IntWalk.iteOmega, IntWalk.toNatUp, reduceCtorEq] <;> rfl) (by simp only [wx, wy, wz, stV, seval, IntWalk.iteOmega, IntWalk.toNatUp, reduceCtorEq])
    · have hB : sfB b = false := decide_eq_false fun k => hv ⟨k.2.1, k.2.2.1⟩
      rw [hB, if_neg (by decide), if_neg (by decide), if_neg (by decide), if_neg (by decide)]
      by_cases h6 : sfH b ≤ 6
      · have hs := shl6u h6
        have hw := wru6 h6
        have hv2 : ¬ sfI b < 2 ^ sfH b := fun k => hv ⟨h6, k⟩
        generalize sfI b = i at *
        generalize sfH b = m at *
        generalize 2 ^ m = N at *
        simp only [sf_mprt, putAll, wx, wy, wz, stV, seval, IntWalk.iteOmega, IntWalk.toNatUp, reduceCtorEq, e0']
        refine st_call (g1) rfl (.inl rfl) ?_
        simp only [hw, hs, wx, wy, wz, stV, seval, IntWalk.iteOmega, IntWalk.toNatUp, reduceCtorEq]
        exact ret_d5 (by simp only [wx, wy, wz, stV, seval, IntWalk.iteOmega, IntWalk.toNatUp, reduceCtorEq] <;> rfl) (by simp only [wx, wy, wz, stV, seval, IntWalk.iteOmega, IntWalk.toNatUp, reduceCtorEq] <;> rfl) (by simp only [wx, wy, wz, stV, seval, IntWalk.iteOmega, IntWalk.toNatUp, reduceCtorEq] <;> rfl) (by simp only [wx, wy, wz, stV, seval, IntWalk.iteOmega, IntWalk.toNatUp, reduceCtorEq] <;> rfl) (by simp only [wx, wy, wz, stV, seval, IntWalk.iteOmega, IntWalk.toNatUp, reduceCtorEq])
      · generalize sfI b = i at *
        generalize sfH b = m at *
        simp only [sf_mprt, putAll, wx, wy, wz, stV, seval, IntWalk.iteOmega, IntWalk.toNatUp, reduceCtorEq, e0']
        refine st_call (g1) rfl (.inl rfl) ?_
        simp only [wx, wy, wz, stV, seval, IntWalk.iteOmega, IntWalk.toNatUp, reduceCtorEq]
        exact ret_d5 (by simp only [wx, wy, wz, stV, seval, IntWalk.iteOmega, IntWalk.toNatUp, reduceCtorEq] <;> rfl) (by simp only [wx, wy, wz, stV, seval, IntWalk.iteOmega, IntWalk.toNatUp, reduceCtorEq] <;> rfl) (by simp only [wx, wy, wz, stV, seval, IntWalk.iteOmega, IntWalk.toNatUp, reduceCtorEq] <;> rfl) (by simp only [wx, wy, wz, stV, seval, IntWalk.iteOmega, IntWalk.toNatUp, reduceCtorEq] <;> rfl) (by simp only [wx, wy, wz, stV, seval, IntWalk.iteOmega, IntWalk.toNatUp, reduceCtorEq])
  · have hB : sfB b = false := decide_eq_false fun k => by omega
    rw [hB, if_neg (by decide), if_neg (by decide), if_neg (by decide), if_neg (by decide)]
    simp only [sf_mprt, putAll, wx, wy, wz, stV, seval, IntWalk.iteOmega, IntWalk.toNatUp, reduceCtorEq]
    exact ret_d5 (by simp only [wx, wy, wz, stV, seval, IntWalk.iteOmega, IntWalk.toNatUp, reduceCtorEq] <;> rfl) (by simp only [wx, wy, wz, stV, seval, IntWalk.iteOmega, IntWalk.toNatUp, reduceCtorEq] <;> rfl) (by simp only [wx, wy, wz, stV, seval, IntWalk.iteOmega, IntWalk.toNatUp, reduceCtorEq] <;> rfl) (by simp only [wx, wy, wz, stV, seval, IntWalk.iteOmega, IntWalk.toNatUp, reduceCtorEq] <;> rfl) (by simp only [wx, wy, wz, stV, seval, IntWalk.iteOmega, IntWalk.toNatUp, reduceCtorEq])
end Go.Proofs.YtjgkchmdhicmpaaDoor
set_option linter.unusedVariables false
set_option linter.unusedSimpArgs false
namespace Go.Proofs.YtjgkchmdhicmpaaDoor
open Go.RowKit

def sf_mix : SFn := ⟨1, 20,
  .seq (.reg [⟨(some 2), .mv (.k (.c (.d (.int .i64 0)))), none⟩,
    ⟨(some 3), .mv (.k (.c (.d (.int .i64 0)))), none⟩])
  (.seq (.reg [⟨(some 10), .mv (.t 0), none⟩,
    ⟨(some 11), .call 55 [(.t 10)] none, none⟩,
    ⟨(some 9), .mv (.t 11), none⟩,
    ⟨(some 12), .extract (.t 9) 0, none⟩,
    ⟨(some 13), .extract (.t 9) 1, none⟩,
    ⟨(some 14), .extract (.t 9) 2, none⟩,
    ⟨(some 15), .extract (.t 9) 3, none⟩,
    ⟨(some 16), .extract (.t 9) 4, none⟩,
    ⟨(some 4), .mv (.t 12), none⟩,
    ⟨(some 5), .mv (.t 13), none⟩,
    ⟨(some 6), .mv (.t 14), none⟩,
    ⟨(some 7), .mv (.t 15), none⟩,
    ⟨(some 8), .mv (.t 16), none⟩])
  (.seq (.seq (.reg [⟨(some 17), .mv (.t 8), none⟩,
    ⟨(some 18), .un .not (.t 17), none⟩])
  (.cond (.t 18) (.seq (.reg [⟨(some 2), .mv (.k (.c (.d (.int .i64 0)))), none⟩,
     ⟨(some 3), .mv (.k (.c (.d (.int .i64 3)))), none⟩])
   (.ret))
   (.skip)))
  (.seq (.reg [⟨(some 19), .mv (.t 5), none⟩,
    ⟨(some 2), .mv (.t 19), none⟩,
    ⟨(some 3), .mv (.k (.c (.d (.int .i64 0)))), none⟩])
  (.ret)))),
  [(2, none), (3, none)]⟩
theorem cf_mix : compFn Tryd.prog { own := [], comp := [], frz := [], nils := [] } Tryd.f21 = some sf_mix := by kernel_rfl
set_option maxHeartbeats 1600000 in
theorem mix_c (G : Glob) (b : List UInt8) (hb : b.length ≤ 140737488355328) : Den Tryd.prog G 21 [.sl (b.map bD)] (.tup [.c (.d (.int .i64 (sixV b))), .c (.d (.int .i64 (sixE b)))]) := by
  refine den_walk Tryd.func21 cf_mix rfl rfl ?_
  have h1 := mprt_c G b hb
  unfold sixV sixE
  cases e : sfB b
  · rw [e, if_neg (by decide), if_neg (by decide), if_neg (by decide), if_neg (by decide)] at h1
    rw [if_neg (by decide), if_neg (by decide)]
    simp only [sf_mix, putAll, wx, wy, wz, stV, seval, IntWalk.iteOmega, IntWalk.toNatUp, reduceCtorEq]
    refine st_call (h1) rfl (.inl rfl) ?_
    simp only [wx, wy, wz, stV, seval, IntWalk.iteOmega, IntWalk.toNatUp, reduceCtorEq]
    exact ret_d2 (by simp only [wx, wy, wz, stV, seval, IntWalk.iteOmega, IntWalk.toNatUp, reduceCtorEq]) (by simp only [wx, wy, wz, stV, seval, IntWalk.iteOmega, IntWalk.toNatUp, reduceCtorEq])
  · rw [e, if_pos rfl, if_pos rfl, if_pos rfl, if_pos rfl] at h1
    rw [if_pos rfl, if_pos rfl]
    generalize sfE b = x1 at *
    generalize sfP b = x2 at *
    generalize sfI b = i at *
    generalize sfH b = m at *
    simp only [sf_mix, putAll, wx, wy, wz, stV, seval, IntWalk.iteOmega, IntWalk.toNatUp, reduceCtorEq]
    refine st_call (h1) rfl (.inl rfl) ?_
    simp only [wx, wy, wz, stV, seval, IntWalk.iteOmega, IntWalk.toNatUp, reduceCtorEq]
    exact ret_d2 (by simp only [wx, wy, wz, stV, seval, IntWalk.iteOmega, IntWalk.toNatUp, reduceCtorEq]) (by simp only [wx, wy, wz, stV, seval, IntWalk.iteOmega, IntWalk.toNatUp, reduceCtorEq])
def sf_mvf : SFn := ⟨3, 49,
  .seq (.reg [⟨(some 6), .mv (.k (.c (.d (.bool false)))), none⟩])
  (.seq (.seq (.reg [⟨(some 14), .mv (.t 0), none⟩,
    ⟨(some 15), .len (.t 14), none⟩,
    ⟨(some 16), .bin .neq (.t 15) (.k (.c (.d (.int .i64 32)))), none⟩,
    ⟨(some 17), .mv (.t 16), none⟩,
    ⟨(some 18), .mv (.t 1), (some (17, false))⟩,
    ⟨(some 19), .len (.t 18), (some (17, false))⟩,
    ⟨(some 20), .bin .gtr (.t 19) (.k (.c (.d (.int .i64 65535)))), (some (17, false))⟩,
    ⟨(some 21), .pick (.t 17) (.k (.c (.d (.bool true)))) (.t 20), none⟩])
  (.cond (.t 21) (.seq (.reg [⟨(some 6), .mv (.k (.c (.d (.bool false)))), none⟩])
   (.ret))
   (.skip)))
  (.seq (.reg [⟨(some 23), .mv (.t 2), none⟩,
    ⟨(some 24), .call 55 [(.t 23)] none, none⟩,
    ⟨(some 22), .mv (.t 24), none⟩,
    ⟨(some 25), .extract (.t 22) 0, none⟩,
    ⟨(some 26), .extract (.t 22) 1, none⟩,
    ⟨(some 27), .extract (.t 22) 2, none⟩,
    ⟨(some 28), .extract (.t 22) 3, none⟩,
    ⟨(some 29), .extract (.t 22) 4, none⟩,
    ⟨(some 7), .mv (.t 25), none⟩,
    ⟨(some 8), .mv (.t 26), none⟩,
    ⟨(some 9), .mv (.t 27), none⟩,
    ⟨(some 10), .mv (.t 28), none⟩,
    ⟨(some 11), .mv (.t 29), none⟩])
  (.seq (.seq (.reg [⟨(some 30), .mv (.t 11), none⟩,
    ⟨(some 31), .un .not (.t 30), none⟩])
  (.cond (.t 31) (.seq (.reg [⟨(some 6), .mv (.k (.c (.d (.bool false)))), none⟩])
   (.ret))
   (.skip)))
  (.seq (.reg [⟨(some 33), .mv (.t 0), none⟩,
    ⟨(some 34), .mv (.t 8), none⟩,
    ⟨(some 35), .mv (.t 1), none⟩,
    ⟨(some 36), .call 50 [(.t 33), (.t 34), (.t 35)] none, none⟩,
    ⟨(some 37), .mv (.t 9), none⟩,
    ⟨(some 38), .call 58 [(.t 36), (.t 37)] none, none⟩,
    ⟨(some 32), .mv (.t 38), none⟩,
    ⟨(some 39), .extract (.t 32) 0, none⟩,
    ⟨(some 40), .extract (.t 32) 1, none⟩,
    ⟨(some 12), .mv (.t 39), none⟩,
    ⟨(some 13), .mv (.t 40), none⟩])
  (.seq (.reg [⟨(some 41), .mv (.t 0), none⟩,
    ⟨(some 42), .mv (.t 7), none⟩,
    ⟨(some 43), .conv .u64 (.t 42), none⟩,
    ⟨(some 44), .bin .shl (.k (.c (.d (.int .i64 1)))) (.t 43), none⟩,
    ⟨(some 45), .mv (.t 8), none⟩,
    ⟨(some 46), .mv (.t 12), none⟩,
    ⟨(some 47), .mv (.t 10), none⟩,
    ⟨(some 48), .call 59 [(.t 41), (.t 44), (.t 45), (.t 46), (.t 47)] none, none⟩,
    ⟨(some 6), .mv (.t 48), none⟩])
  (.ret)))))),
  [(6, none)]⟩
theorem cf_mvf : compFn Tryd.prog { own := [], comp := [], frz := [], nils := [] } Tryd.f23 = some sf_mvf := by kernel_rfl
set_option maxHeartbeats 3200000 in
theorem mvf_c (G : Glob) (hF : G.at 0 = some (.ra (firstK.map wD))) (hG : G.at 1 = some (.ra (constK.map wD))) (pub msg b : List UInt8) (hp : pub.length ≤ 9223372036854775807) (hm : msg.length ≤ 9223372036854775807) (hb : b.length ≤ 140737488355328) : Den Tryd.prog G 23 [.sl (pub.map bD), .sl (msg.map bD), .sl (b.map bD)] (.w (.c (.d (.bool (svfB pub msg b))))) := by
  refine den_walk Tryd.func23 cf_mvf rfl rfl ?_
  have h1 := mprt_c G b hb
  unfold svfB
  by_cases k1 : pub.length = 32
  · rw [decide_eq_true k1, Bool.true_and]
    by_cases k2 : msg.length ≤ 65535
    · rw [decide_eq_true k2, Bool.true_and]
      cases e : sfB b
      · rw [e, if_neg (by decide), if_neg (by decide), if_neg (by decide), if_neg (by decide)] at h1
        rw [Bool.false_and]
        simp only [sf_mvf, putAll, wx, wy, wz, stV, seval, IntWalk.iteOmega, IntWalk.toNatUp, reduceCtorEq, k1]
        refine st_call (h1) rfl (.inl rfl) ?_
        simp only [wx, wy, wz, stV, seval, IntWalk.iteOmega, IntWalk.toNatUp, reduceCtorEq]
        exact ret_d1 (by simp only [wx, wy, wz, stV, seval, IntWalk.iteOmega, IntWalk.toNatUp, reduceCtorEq])
      · rw [e, if_pos rfl, if_pos rfl, if_pos rfl, if_pos rfl] at h1
        rw [Bool.true_and]
        obtain ⟨q1, q2, q3, q4⟩ := sfB_ok e
        have h64 := pow6 q2
        have hd := sdig_len pub (sfI b) msg
        have hh := mdig_c G (sfI b) pub msg (by omega) (by omega) (by omega)
        have hl16 := sfE_mem q1
        have hl32 := sfP_mem q4
        have hr := rrec_c G (sdig pub (sfI b) msg) (sfE b) (by omega) (by unfold sfE; rw [cutM_len]; decide) (fun x hx => by rw [hl16 x hx]; decide)
        rw [(recOk hd q1).1, (recOk hd q1).2] at hr
        have hs := shl6u q2
        have hw := wru6 q2
        have hrl := recM_len (sdig pub (sfI b) msg) (sfE b)
        have hc := rchkt_c G hF hG pub ((2 ^ sfH b : Nat) : Int) (sfI b : Int) (recM (sdig pub (sfI b) msg) (sfE b)) (sfP b) (by omega) (by unfold sfP; rw [cutM_len]; omega) (fun x hx => by rw [hl32 x hx]; decide)
        generalize checkB pub ((2 ^ sfH b : Nat) : Int) (sfI b : Int) (recM (sdig pub (sfI b) msg) (sfE b)) (sfP b) = z at *
        generalize recM (sdig pub (sfI b) msg) (sfE b) = y at *
        generalize sdig pub (sfI b) msg = d at *
        generalize sfE b = x1 at *
        generalize sfP b = x2 at *
        generalize sfI b = i at *
        generalize sfH b = m at *
        generalize 2 ^ m = N at *
        simp only [sf_mvf, putAll, wx, wy, wz, stV, seval, IntWalk.iteOmega, IntWalk.toNatUp, reduceCtorEq, k1]
        refine st_call (h1) rfl (.inl rfl) ?_
        simp only [wx, wy, wz, stV, seval, IntWalk.iteOmega, IntWalk.toNatUp, reduceCtorEq]
        refine st_call (hh) rfl (.inl rfl) ?_
        simp only [wx, wy, wz, stV, seval, IntWalk.iteOmega, IntWalk.toNatUp, reduceCtorEq]
        refine st_call (hr) rfl (.inl rfl) ?_
        simp only [hw, hs, wx, wy, wz, stV, seval, IntWalk.iteOmega, IntWalk.toNatUp, reduceCtorEq]
        refine st_call (hc) rfl (.inl rfl) ?_
        simp only [wx, wy, wz, stV, seval, IntWalk.iteOmega, IntWalk.toNatUp, reduceCtorEq]
        exact ret_d1 (by simp only [wx, wy, wz, stV, seval, IntWalk.iteOmega, IntWalk.toNatUp, reduceCtorEq])
    · rw [decide_eq_false k2, Bool.false_and]
      simp only [sf_mvf, putAll, wx, wy, wz, stV, seval, IntWalk.iteOmega, IntWalk.toNatUp, reduceCtorEq, k1]
      exact ret_d1 (by simp only [wx, wy, wz, stV, seval, IntWalk.iteOmega, IntWalk.toNatUp, reduceCtorEq])
  · rw [decide_eq_false k1, Bool.false_and]
    simp only [sf_mvf, putAll, wx, wy, wz, stV, seval, IntWalk.iteOmega, IntWalk.toNatUp, reduceCtorEq]
    exact ret_d1 (by simp only [wx, wy, wz, stV, seval, IntWalk.iteOmega, IntWalk.toNatUp, reduceCtorEq])
def sf_msm : SFn := ⟨2, 24,
  .seq (.reg [⟨(some 2), .box .roBox (.t 0), none⟩,
    ⟨(some 3), .box .roBox (.t 1), none⟩,
    ⟨(some 4), .mv (.k (.c (.d (.bool false)))), none⟩])
  (.seq (.reg [⟨(some 5), .fieldAddr 0 (.t 2), none⟩,
    ⟨(some 6), .load .sc (.t 5), none⟩,
    ⟨(some 7), .fieldAddr 0 (.t 3), none⟩,
    ⟨(some 8), .load .sc (.t 7), none⟩,
    ⟨(some 9), .call 19 [(.t 6), (.t 8)] none, none⟩,
    ⟨(some 10), .mv (.t 9), none⟩,
    ⟨(some 11), .fieldAddr 1 (.t 2), (some (10, true))⟩,
    ⟨(some 12), .load .sc (.t 11), (some (10, true))⟩,
    ⟨(some 13), .fieldAddr 1 (.t 3), (some (10, true))⟩,
    ⟨(some 14), .load .sc (.t 13), (some (10, true))⟩,
    ⟨(some 15), .bin .eql (.t 12) (.t 14), (some (10, true))⟩,
    ⟨(some 16), .pick (.t 10) (.t 15) (.k (.c (.d (.bool false)))), none⟩,
    ⟨(some 17), .mv (.t 16), none⟩,
    ⟨(some 18), .fieldAddr 2 (.t 2), (some (17, true))⟩,
    ⟨(some 19), .load .sc (.t 18), (some (17, true))⟩,
    ⟨(some 20), .fieldAddr 2 (.t 3), (some (17, true))⟩,
    ⟨(some 21), .load .sc (.t 20), (some (17, true))⟩,
    ⟨(some 22), .bin .eql (.t 19) (.t 21), (some (17, true))⟩,
    ⟨(some 23), .pick (.t 17) (.t 22) (.k (.c (.d (.bool false)))), none⟩,
    ⟨(some 4), .mv (.t 23), none⟩])
  (.ret)),
  [(4, none)]⟩
theorem cf_msm : compFn Tryd.prog { own := [], comp := [], frz := [], nils := [] } Tryd.f18 = some sf_msm := by kernel_rfl
theorem msm_c (G : Glob) (s1 : List UInt8) (h n : Int) : Den Tryd.prog G 18 [keyD s1 h n, keyD s1 h n] (.w (.c (.d (.bool true)))) := by
  refine den_walk Tryd.func18 cf_msm rfl rfl ?_
  have hs := rsame_c G s1 s1
  simp only [beq_self_eq_true] at hs
  simp only [sf_msm, putAll, wx, wy, wz, stV, seval, IntWalk.iteOmega, IntWalk.toNatUp, reduceCtorEq]
  refine st_call (hs) rfl (.inl rfl) ?_
  simp only [wx, wy, wz, stV, seval, IntWalk.iteOmega, IntWalk.toNatUp, reduceCtorEq]
  exact ret_d1 (by simp only [wx, wy, wz, stV, seval, IntWalk.iteOmega, IntWalk.toNatUp, reduceCtorEq])
end Go.Proofs.YtjgkchmdhicmpaaDoor
set_option linter.unusedVariables false
set_option linter.unusedSimpArgs false
namespace Go.Proofs.YtjgkchmdhicmpaaDoor
open Go.RowKit

def sgF (seed : List UInt8) (h n : Int) (msg : List UInt8) : W := if sgE seed h n msg = 0 then .mix [.fr 1 (seed.map bD), .d (.int .i64 h), .d (.int .i64 (n + 1))] else .mix [.fr 1 [], .d (.int .i64 0), .d (.int .i64 0)]
theorem tkM (l : List UInt8) : (l.map bD).take l.length = l.map bD := List.take_of_length_le (by rw [List.length_map]; exact Nat.le_refl _)
theorem ret_key {σ : St} {p q r : Nat × Option Kd} {s1 s2 : List D} {h n e : Int} {w1 w2 : C}
    (h1 : resW σ p = some (.mix [w1, .d (.int .i64 h), .d (.int .i64 n)])) (h2 : resW σ q = some (.c w2)) (h3 : resW σ r = some (.c (.d (.int .i64 e)))) (x1 : exC σ.h w1 (.fr 1 s1)) (x2 : exC σ.h w2 (.fr 1 s2)) (hd : (w1.ids ++ w2.ids).Nodup) :
    RetOk σ [p, q, r] (.tup [.mix [.fr 1 s1, .d (.int .i64 h), .d (.int .i64 n)], .c (.fr 1 s2), .c (.d (.int .i64 e))]) := by
  refine ⟨[.mix [w1, .d (.int .i64 h), .d (.int .i64 n)], .c w2, .c (.d (.int .i64 e))], by simp [allSome, h1, h2, h3], .inl ⟨?_, ?_⟩⟩
  · simpa [W.ids, C.ids] using hd
  · exact .cons (.cons x1 (.cons rfl (.cons rfl .nil))) (.cons x2 (.cons rfl .nil))
def sf_nsgnF : SFn := ⟨2, 41,
  .seq (.reg [⟨(some 2), .box .roBox (.t 0), none⟩,
    ⟨(some 4), .alloc [.nil, (.d (.int .i64 0)), (.d (.int .i64 0))], none⟩,
    ⟨(some 5), .mv (.k (.c .nil)), none⟩,
    ⟨(some 6), .mv (.k (.c (.d (.int .i64 0)))), none⟩])
  (.seq (.reg [⟨(some 11), .load (.ag 3) (.t 2), none⟩,
    ⟨(some 12), .call 14 [(.t 11)] none, none⟩,
    ⟨(some 10), .mv (.t 12), none⟩,
    ⟨(some 13), .extract (.t 10) 0, none⟩,
    ⟨(some 14), .extract (.t 10) 1, none⟩,
    ⟨(some 7), .mv (.t 13), none⟩,
    ⟨(some 8), .mv (.t 14), none⟩])
  (.seq (.seq (.reg [⟨(some 15), .mv (.t 8), none⟩,
    ⟨(some 16), .bin .neq (.t 15) (.k (.c (.d (.int .i64 0)))), none⟩])
  (.cond (.t 16) (.seq (.reg [⟨(some 17), .build [.nil, (.d (.int .i64 0)), (.d (.int .i64 0))] [], none⟩,
     ⟨(some 18), .mv (.t 8), none⟩,
     ⟨none, .store (.ag 3) (.t 4) (.t 17), none⟩,
     ⟨(some 5), .mv (.k (.c .nil)), none⟩,
     ⟨(some 6), .mv (.t 18), none⟩])
   (.ret))
   (.skip)))
  (.seq (.seq (.reg [⟨(some 19), .mv (.t 7), none⟩,
    ⟨(some 20), .bin .eql (.t 19) (.k (.c (.d (.int .i64 0)))), none⟩])
  (.cond (.t 20) (.seq (.reg [⟨(some 21), .build [.nil, (.d (.int .i64 0)), (.d (.int .i64 0))] [], none⟩,
     ⟨none, .store (.ag 3) (.t 4) (.t 21), none⟩,
     ⟨(some 5), .mv (.k (.c .nil)), none⟩,
     ⟨(some 6), .mv (.k (.c (.d (.int .i64 7)))), none⟩])
   (.ret))
   (.skip)))
  (.seq (.seq (.reg [⟨(some 22), .mv (.t 1), none⟩,
    ⟨(some 23), .len (.t 22), none⟩,
    ⟨(some 24), .bin .gtr (.t 23) (.k (.c (.d (.int .i64 65535)))), none⟩])
  (.cond (.t 24) (.seq (.reg [⟨(some 25), .build [.nil, (.d (.int .i64 0)), (.d (.int .i64 0))] [], none⟩,
     ⟨none, .store (.ag 3) (.t 4) (.t 25), none⟩,
     ⟨(some 5), .mv (.k (.c .nil)), none⟩,
     ⟨(some 6), .mv (.k (.c (.d (.int .i64 2)))), none⟩])
   (.ret))
   (.skip)))
  (.seq (.reg [⟨(some 26), .fieldAddr 0 (.t 2), none⟩,
    ⟨(some 27), .load .sc (.t 26), none⟩,
    ⟨(some 28), .bldSl false 1 1 (.sl []) [(0, (.t 27))], none⟩,
    ⟨(some 29), .call 43 [(.t 28)] (some (0, 1)), none⟩,
    ⟨(some 30), .fieldAddr 1 (.t 2), none⟩,
    ⟨(some 31), .load .sc (.t 30), none⟩,
    ⟨(some 32), .fieldAddr 2 (.t 2), none⟩,
    ⟨(some 33), .load .sc (.t 32), none⟩,
    ⟨(some 34), .bin .add (.t 33) (.k (.c (.d (.int .i64 1)))), none⟩,
    ⟨(some 35), .build [.nil, (.d (.int .i64 0)), (.d (.int .i64 0))] [(0, 1, (.t 29)), (1, 1, (.t 31)), (2, 1, (.t 34))], none⟩,
    ⟨(some 9), .alloc [.nil, (.d (.int .i64 0)), (.d (.int .i64 0))], none⟩,
    ⟨none, .store (.ag 3) (.t 9) (.t 35), none⟩])
  (.seq (.reg [⟨(some 36), .load (.ag 3) (.t 9), none⟩,
    ⟨(some 37), .load (.ag 3) (.t 2), none⟩,
    ⟨(some 38), .mv (.t 1), none⟩,
    ⟨(some 39), .call 44 [(.t 37), (.t 38)] none, none⟩,
    ⟨(some 40), .call 45 [(.t 39)] (some (0, 1)), none⟩,
    ⟨none, .store (.ag 3) (.t 4) (.t 36), none⟩,
    ⟨(some 5), .mv (.t 40), none⟩,
    ⟨(some 6), .mv (.k (.c (.d (.int .i64 0)))), none⟩])
  (.ret))))))),
  [(4, (some (.ag 3))), (5, none), (6, none)]⟩
theorem cf_nsgnF : compFn Tryd.prog { own := [29, 40], comp := [], frz := [], nils := [] } Tryd.f12 = some sf_nsgnF := by kernel_rfl
set_option maxHeartbeats 1600000 in
theorem nsgnF_f (G : Glob) (hF : G.at 0 = some (.ra (firstK.map wD))) (hG : G.at 1 = some (.ra (constK.map wD))) (seed : List UInt8) (h n : Int) (msg : List UInt8) (hm0 : msg.length ≤ 9223372036854775807) : Den Tryd.prog G 12 [keyD seed h n, .sl (msg.map bD)] (.tup [sgF seed h n msg, .c (.fr 1 ((sgV' seed h n msg).map bD)), .c (.d (.int .i64 (sgE seed h n msg)))]) := by
  refine den_walk Tryd.func12 cf_nsgnF rfl rfl ?_
  have hk := nlft_c G seed h n
  unfold sleftV sleftE at hk
  unfold sgF sgV'
  cases e : svalB seed h n
  · have hE : sgE seed h n msg = 3 := by unfold sgE; rw [if_neg (by rw [e]; decide)]
    rw [hE, if_neg (by decide), if_neg (by decide)]
    rw [e, if_neg (by decide), if_neg (by decide)] at hk
    simp only [sf_nsgnF, putAll, wx, wy, wz, stV, seval, IntWalk.iteOmega, IntWalk.toNatUp, reduceCtorEq]
    refine st_call (hk) rfl (.inl rfl) ?_
    simp only [wx, wy, wz, stV, seval, IntWalk.iteOmega, IntWalk.toNatUp, reduceCtorEq]
    exact ret_key (w1 := .nil) (w2 := .nil) (by simp only [wx, wy, wz, stV, seval, IntWalk.iteOmega, IntWalk.toNatUp, reduceCtorEq] <;> rfl) (by simp only [wx, wy, wz, stV, seval, IntWalk.iteOmega, IntWalk.toNatUp, reduceCtorEq] <;> rfl) (by simp only [wx, wy, wz, stV, seval, IntWalk.iteOmega, IntWalk.toNatUp, reduceCtorEq]) rfl rfl (by simp [C.ids])
  · obtain ⟨k1, k2, k3, k4, k5⟩ := sval_ok e
    rw [e, if_pos rfl, if_pos rfl] at hk
    obtain ⟨m, rfl⟩ := Int.eq_ofNat_of_zero_le k2
    obtain ⟨i, rfl⟩ := Int.eq_ofNat_of_zero_le k4
    have et : ((m : Int).toNat) = m := rfl
    have ei : ((i : Int).toNat) = i := rfl
    rw [et] at k5 hk
    have h64 := pow6 (h := m) (by omega)
    by_cases h1 : i = 2 ^ m
    · have hE : sgE seed (m : Int) (i : Int) msg = 7 := by unfold sgE; rw [if_pos e, et, if_pos (by omega)]
      rw [hE, if_neg (by decide), if_neg (by decide)]
      have e0 : ((2 ^ m : Nat) : Int) - (i : Int) = 0 := by omega
      rw [e0] at hk
      simp only [sf_nsgnF, putAll, wx, wy, wz, stV, seval, IntWalk.iteOmega, IntWalk.toNatUp, reduceCtorEq]
      refine st_call (hk) rfl (.inl rfl) ?_
      simp only [wx, wy, wz, stV, seval, IntWalk.iteOmega, IntWalk.toNatUp, reduceCtorEq]
      exact ret_key (w1 := .nil) (w2 := .nil) (by simp only [wx, wy, wz, stV, seval, IntWalk.iteOmega, IntWalk.toNatUp, reduceCtorEq] <;> rfl) (by simp only [wx, wy, wz, stV, seval, IntWalk.iteOmega, IntWalk.toNatUp, reduceCtorEq] <;> rfl) (by simp only [wx, wy, wz, stV, seval, IntWalk.iteOmega, IntWalk.toNatUp, reduceCtorEq]) rfl rfl (by simp [C.ids])
    · by_cases h2 : 65535 < msg.length
      · have hE : sgE seed (m : Int) (i : Int) msg = 2 := by unfold sgE; rw [if_pos e, et, if_neg (by omega), if_pos h2]
        rw [hE, if_neg (by decide), if_neg (by decide)]
        generalize 2 ^ m = N at *
        simp only [sf_nsgnF, putAll, wx, wy, wz, stV, seval, IntWalk.iteOmega, IntWalk.toNatUp, reduceCtorEq]
        refine st_call (hk) rfl (.inl rfl) ?_
        simp only [wx, wy, wz, stV, seval, IntWalk.iteOmega, IntWalk.toNatUp, reduceCtorEq]
        exact ret_key (w1 := .nil) (w2 := .nil) (by simp only [wx, wy, wz, stV, seval, IntWalk.iteOmega, IntWalk.toNatUp, reduceCtorEq] <;> rfl) (by simp only [wx, wy, wz, stV, seval, IntWalk.iteOmega, IntWalk.toNatUp, reduceCtorEq] <;> rfl) (by simp only [wx, wy, wz, stV, seval, IntWalk.iteOmega, IntWalk.toNatUp, reduceCtorEq]) rfl rfl (by simp [C.ids])
      · have hE : sgE seed (m : Int) (i : Int) msg = 0 := by unfold sgE; rw [if_pos e, et, if_neg (by omega), if_neg h2]
        rw [hE, if_pos rfl, if_pos rfl, et, ei]
        have hj := join_c G [seed] (by simp) (by simp; omega)
        have hf : [seed].flatten = seed := by simp
        rw [hf] at hj
        have h5 := nsgd_c G hF hG seed m i msg k1 (by omega) (by omega) (by omega)
        have hpl := spath_len seed (h := m) (n := i) (by omega)
        have h6 := gby_f G m i (sigM seed i (sdig (rootM (lvsM seed m)) i msg)) (pathM (lvsM seed m) i) (by omega) (by omega) (by unfold sigM; rw [sigN_len]; decide) sig_mem (by omega) (path_32 _ _ _ rfl)
        have hg : sgB m i (sigM seed i (sdig (rootM (lvsM seed m)) i msg)) (pathM (lvsM seed m) i) = sgM seed m i msg := rfl
        rw [hg] at h6
        generalize sgM seed m i msg = z at *
        generalize sigM seed i (sdig (rootM (lvsM seed m)) i msg) = z1 at *
        generalize pathM (lvsM seed m) i = z2 at *
        generalize 2 ^ m = N at *
        simp only [sf_nsgnF, putAll, wx, wy, wz, stV, seval, IntWalk.iteOmega, IntWalk.toNatUp, reduceCtorEq]
        refine st_call (hk) rfl (.inl rfl) ?_
        simp only [wx, wy, wz, stV, seval, IntWalk.iteOmega, IntWalk.toNatUp, reduceCtorEq]
        refine st_call (hj) rfl (.inl rfl) ?_
        simp only [wx, wy, wz, stV, seval, IntWalk.iteOmega, IntWalk.toNatUp, reduceCtorEq]
        refine st_call (h5) rfl (.inl rfl) ?_
        simp only [wx, wy, wz, stV, seval, IntWalk.iteOmega, IntWalk.toNatUp, reduceCtorEq]
        refine st_call (h6) rfl (.inl rfl) ?_
        simp only [wx, wy, wz, stV, seval, IntWalk.iteOmega, IntWalk.toNatUp, reduceCtorEq]
        exact ret_key (w1 := .own 232 1 0 seed.length) (w2 := .own 320 1 0 z.length) (by simp only [wx, wy, wz, stV, seval, IntWalk.iteOmega, IntWalk.toNatUp, reduceCtorEq] <;> rfl) (by simp only [wx, wy, wz, stV, seval, IntWalk.iteOmega, IntWalk.toNatUp, reduceCtorEq] <;> rfl) (by simp only [wx, wy, wz, stV, seval, IntWalk.iteOmega, IntWalk.toNatUp, reduceCtorEq]) (by simp [exC, upd, obSl, tkM]) (by simp [exC, upd, obSl, tkM]) (by simp [C.ids])
end Go.Proofs.YtjgkchmdhicmpaaDoor
set_option linter.unusedVariables false
set_option linter.unusedSimpArgs false
namespace Go.Proofs.YtjgkchmdhicmpaaDoor
open Go.RowKit

theorem fl_sgn (seed : List UInt8) (h n : Int) (msg : List UInt8) : V.flat (.tup [sgF seed h n msg, .c (.fr 1 ((sgV' seed h n msg).map bD)), .c (.d (.int .i64 (sgE seed h n msg)))]) = true := by
  have hb : ∀ l : List UInt8, (l.map bD).all D.flat = true := fun l => by rw [List.all_map, List.all_eq_true]; intro x _; rfl
  unfold sgF
  split <;> simp only [V.flat, W.flat, C.flat, List.all_cons, List.all_nil, hb, Bool.and_true] <;> rfl
theorem z32o : List.replicate 32 (D.int .u8 0) = (repL 32 (0 : UInt8)).map bD := rfl
theorem sgE_0 {seed msg : List UInt8} {h n : Nat} (hs : seed.length = 32) (hh : h ≤ 6) (hn : n < 2 ^ h) (hm : msg.length ≤ 65535) : sgE seed (h : Int) (n : Int) msg = 0 := by
  have hv : svalB seed (h : Int) (n : Int) = true := by
    unfold svalB
    refine decide_eq_true ⟨sckE_in hs (by omega) (by omega), by omega, ?_⟩
    show (n : Int) ≤ ((2 ^ h : Nat) : Int)
    omega
  have et : ((h : Int).toNat) = h := rfl
  unfold sgE
  rw [if_pos hv, et, if_neg (by omega), if_neg (by omega)]
theorem sgE_7 {seed msg : List UInt8} {h : Nat} (hs : seed.length = 32) (hh : h ≤ 6) : sgE seed (h : Int) ((2 ^ h : Nat) : Int) msg = 7 := by
  have hv : svalB seed (h : Int) ((2 ^ h : Nat) : Int) = true := by
    unfold svalB
    exact decide_eq_true ⟨sckE_in hs (by omega) (by omega), Int.natCast_nonneg _, Int.le_refl _⟩
  have et : ((h : Int).toNat) = h := rfl
  unfold sgE
  rw [if_pos hv, et, if_pos rfl]
theorem sgn_ok {seed msg : List UInt8} {h n : Nat} (hs : seed.length = 32) (hh : h ≤ 6) (hn : n < 2 ^ h) (hm : msg.length ≤ 65535) :
    sgS seed (h : Int) (n : Int) msg = keyD seed (h : Int) ((n : Int) + 1) ∧ sgV' seed (h : Int) (n : Int) msg = sgM seed h n msg ∧ sgF seed (h : Int) (n : Int) msg = .mix [.fr 1 (seed.map bD), .d (.int .i64 (h : Int)), .d (.int .i64 ((n : Int) + 1))] := by
  have hE := sgE_0 hs hh hn hm
  exact ⟨if_pos hE, if_pos hE, if_pos hE⟩
def sf_known9 : SFn := ⟨0, 56,
  .seq (.reg [⟨(some 0), .mv (.k (.c (.d (.bool false)))), none⟩])
  (.seq (.reg [⟨(some 10), .make 1 1 (.int .u8 0) (.k (.c (.d (.int .i64 32)))) (.k (.c (.d (.int .i64 32)))), none⟩,
    ⟨(some 11), .build [.nil, (.d (.int .i64 0)), (.d (.int .i64 0))] [(0, 1, (.t 10))], none⟩,
    ⟨(some 1), .alloc [.nil, (.d (.int .i64 0)), (.d (.int .i64 0))], none⟩,
    ⟨none, .store (.ag 3) (.t 1) (.t 11), none⟩])
  (.seq (.reg [⟨(some 13), .load (.ag 3) (.t 1), none⟩,
    ⟨(some 14), .bldSl true 1 1 (.int .u8 0) [(0, (.k (.c (.d (.int .u8 97)))))], none⟩,
    ⟨(some 15), .mark (.t 14), none⟩,
    ⟨(some 16), .call 12 [(.t 13), (.t 15)] none, none⟩,
    ⟨(some 12), .mv (.t 16), none⟩,
    ⟨(some 17), .extract (.t 12) 0, none⟩,
    ⟨(some 18), .extract (.t 12) 1, none⟩,
    ⟨(some 19), .extract (.t 12) 2, none⟩,
    ⟨(some 2), .alloc [.nil, (.d (.int .i64 0)), (.d (.int .i64 0))], none⟩,
    ⟨none, .store (.ag 3) (.t 2) (.t 17), none⟩,
    ⟨(some 3), .mv (.t 18), none⟩,
    ⟨(some 4), .mv (.t 19), none⟩])
  (.seq (.reg [⟨(some 21), .load (.ag 3) (.t 2), none⟩,
    ⟨(some 22), .bldSl true 1 1 (.int .u8 0) [(0, (.k (.c (.d (.int .u8 98)))))], none⟩,
    ⟨(some 23), .mark (.t 22), none⟩,
    ⟨(some 24), .call 12 [(.t 21), (.t 23)] none, none⟩,
    ⟨(some 20), .mv (.t 24), none⟩,
    ⟨(some 25), .extract (.t 20) 0, none⟩,
    ⟨(some 26), .extract (.t 20) 1, none⟩,
    ⟨(some 27), .extract (.t 20) 2, none⟩,
    ⟨(some 5), .alloc [.nil, (.d (.int .i64 0)), (.d (.int .i64 0))], none⟩,
    ⟨none, .store (.ag 3) (.t 5) (.t 25), none⟩,
    ⟨(some 6), .mv (.t 26), none⟩,
    ⟨(some 7), .mv (.t 27), none⟩])
  (.seq (.reg [⟨(some 29), .fieldAddr 0 (.t 1), none⟩,
    ⟨(some 30), .load .sc (.t 29), none⟩,
    ⟨(some 31), .call 26 [(.t 30), (.k (.c (.d (.int .i64 0))))] none, none⟩,
    ⟨(some 28), .mv (.t 31), none⟩,
    ⟨(some 32), .extract (.t 28) 0, none⟩,
    ⟨(some 33), .extract (.t 28) 1, none⟩,
    ⟨(some 8), .mv (.t 32), none⟩,
    ⟨(some 9), .mv (.t 33), none⟩])
  (.seq (.reg [⟨(some 34), .mv (.t 4), none⟩,
    ⟨(some 35), .bin .eql (.t 34) (.k (.c (.d (.int .i64 0)))), none⟩,
    ⟨(some 36), .mv (.t 35), none⟩,
    ⟨(some 37), .mv (.t 9), (some (36, true))⟩,
    ⟨(some 38), .bin .eql (.t 37) (.k (.c (.d (.int .i64 0)))), (some (36, true))⟩,
    ⟨(some 39), .pick (.t 36) (.t 38) (.k (.c (.d (.bool false)))), none⟩,
    ⟨(some 40), .mv (.t 39), none⟩,
    ⟨(some 41), .mv (.t 7), (some (40, true))⟩,
    ⟨(some 42), .bin .eql (.t 41) (.k (.c (.d (.int .i64 7)))), (some (40, true))⟩,
    ⟨(some 43), .pick (.t 40) (.t 42) (.k (.c (.d (.bool false)))), none⟩,
    ⟨(some 44), .mv (.t 43), none⟩,
    ⟨(some 45), .mv (.t 3), (some (44, true))⟩,
    ⟨(some 46), .len (.t 45), (some (44, true))⟩,
    ⟨(some 47), .bin .eql (.t 46) (.k (.c (.d (.int .i64 565)))), (some (44, true))⟩,
    ⟨(some 48), .pick (.t 44) (.t 47) (.k (.c (.d (.bool false)))), none⟩,
    ⟨(some 49), .mv (.t 48), none⟩,
    ⟨(some 50), .mv (.t 8), (some (49, true))⟩,
    ⟨(some 51), .bldSl true 1 1 (.int .u8 0) [(0, (.k (.c (.d (.int .u8 97)))))], (some (49, true))⟩,
    ⟨(some 52), .mark (.t 51), (some (49, true))⟩,
    ⟨(some 53), .mv (.t 3), (some (49, true))⟩,
    ⟨(some 54), .call 22 [(.t 50), (.t 52), (.t 53)] none, (some (49, true))⟩,
    ⟨(some 55), .pick (.t 49) (.t 54) (.k (.c (.d (.bool false)))), none⟩,
    ⟨(some 0), .mv (.t 55), none⟩])
  (.ret)))))),
  [(0, none)]⟩
theorem cf_known9 : compFn Tryd.prog { own := [14, 22, 51], comp := [], frz := [], nils := [] } Tryd.f11 = some sf_known9 := by kernel_rfl
set_option maxHeartbeats 1600000 in
theorem known9_c (G : Glob) (hF : G.at 0 = some (.ra (firstK.map wD))) (hG : G.at 1 = some (.ra (constK.map wD))) : Den Tryd.prog G 11 [] (.w (.c (.d (.bool true)))) := by
  refine den_walk Tryd.func11 cf_known9 rfl rfl ?_
  have hz : (repL 32 (0 : UInt8)).length = 32 := repL_len _ _
  have h1 := nsgnF_f G hF hG (repL 32 0) 0 0 [97] (by decide)
  have f1 := fl_sgn (repL 32 0) 0 0 [97]
  have h2 := nsgnF_f G hF hG (repL 32 0) 0 1 [98] (by decide)
  have f2 := fl_sgn (repL 32 0) 0 1 [98]
  have hE : sgE (repL 32 0) 0 0 [97] = 0 := sgE_0 (h := 0) (n := 0) hz (by decide) (by decide) (by decide)
  have hE7 : sgE (repL 32 0) 0 1 [98] = 7 := sgE_7 (h := 0) hz (by decide)
  have k2 : sgV' (repL 32 0) 0 0 [97] = sgM (repL 32 0) 0 0 [97] := if_pos hE
  have k3 : sgF (repL 32 0) 0 0 [97] = .mix [.fr 1 ((repL 32 (0 : UInt8)).map bD), .d (.int .i64 0), .d (.int .i64 (0 + 1))] := if_pos hE
  have k4 : sgV' (repL 32 0) 0 1 [98] = [] := if_neg (by rw [hE7]; decide)
  have k5 : sgF (repL 32 0) 0 1 [98] = .mix [.fr 1 [], .d (.int .i64 0), .d (.int .i64 0)] := if_neg (by rw [hE7]; decide)
  rw [hE, k2, k3] at h1 f1
  rw [hE7, k4, k5] at h2 f2
  have hp := npub_f G hF hG (repL 32 0) 0
  have e0 : sckE (repL 32 0) 0 = 0 := sckE_in hz (by decide) (by decide)
  have eV : spubV (repL 32 0) 0 = rootM (lvsM (repL 32 0) 0) := if_pos e0
  rw [e0, eV] at hp
  have hv := sg_verifies (repL 32 0) (h := 0) (n := 0) (msg := [97]) (by decide) (by decide) (by decide)
  have hl := sgM_len (repL 32 0) (h := 0) (n := 0) (by decide) [97]
  have hr := root_32 (lvsM (repL 32 0) 0)
  have hq := nvf_c G hF hG (rootM (lvsM (repL 32 0) 0)) [97] (sgM (repL 32 0) 0 0 [97]) (by omega) (by decide) (by omega)
  rw [hv] at hq
  have t32 : (repL 32 (0 : UInt8)).take 32 = repL 32 0 := rfl
  have hl : (sgM (repL 32 0) 0 0 [97]).length = 565 := hl
  generalize sgM (repL 32 0) 0 0 [97] = b at *
  generalize rootM (lvsM (repL 32 0) 0) = r at *
  simp only [sf_known9, putAll, wx, wy, wz, stV, seval, IntWalk.iteOmega, IntWalk.toNatUp, reduceCtorEq, z32o]
  refine st_call h1 (by simp only [wx, wy, wz, stV, seval, IntWalk.iteOmega, IntWalk.toNatUp, reduceCtorEq, hz, t32] <;> rfl) (.inr f1) ?_
  simp only [wx, wy, wz, stV, seval, IntWalk.iteOmega, IntWalk.toNatUp, reduceCtorEq]
  refine st_call h2 (by simp only [wx, wy, wz, stV, seval, IntWalk.iteOmega, IntWalk.toNatUp, reduceCtorEq, hz, t32] <;> rfl) (.inr f2) ?_
  simp only [wx, wy, wz, stV, seval, IntWalk.iteOmega, IntWalk.toNatUp, reduceCtorEq]
  refine st_call hp (by simp only [wx, wy, wz, stV, seval, IntWalk.iteOmega, IntWalk.toNatUp, reduceCtorEq, hz, t32] <;> rfl) (.inr (fl_by _ _ _ _)) ?_
  simp only [wx, wy, wz, stV, seval, IntWalk.iteOmega, IntWalk.toNatUp, reduceCtorEq, hl]
  refine st_call hq (by simp only [wx, wy, wz, stV, seval, IntWalk.iteOmega, IntWalk.toNatUp, reduceCtorEq] <;> rfl) (.inr rfl) ?_
  simp only [wx, wy, wz, stV, seval, IntWalk.iteOmega, IntWalk.toNatUp, reduceCtorEq]
  exact ret_d1 (by simp only [wx, wy, wz, stV, seval, IntWalk.iteOmega, IntWalk.toNatUp, reduceCtorEq])
end Go.Proofs.YtjgkchmdhicmpaaDoor
