/- Texts of one's own, merged: from: Package slices on data: Grow of nil (the kit's walk), Concat, ContainsFunc over lists of bytes. Own work. -/
import Derived.Lib.AppendZerosOnto
import Derived.Lib.Walk
import Derived.Test.YtjgkchmdhicmpaaDoorMu9
import Derived.Test.YtjgkchmdhicmpaaDoorMu10
set_option linter.unusedVariables false
set_option linter.unusedSimpArgs false
namespace Go.Proofs.YtjgkchmdhicmpaaDoor
open Go.RowKit
attribute [local go_sem] Oper.semAt_some

/-- Some bytes of a list of lists. -/
abbrev sls (l : List (List UInt8)) : D := .sl (l.map fun l => D.sl (l.map bD))
set_option maxRecDepth 20000 in
theorem gro_run (w : World) (ad : Option Addr) (n : Nat) (hn : 0 < n) (h9 : n ≤ 1000000000000) (i0 : TypeInfo) (z : Value) (hi0 : Tryd.prog.info? 22 = some i0) (hz0 : i0.zero = some z) (hs0 : i0.size = 1) (hb : i0.bytes = 24) :
    Calls Tryd.prog 106 #[.slice ad 0 0, .int .i64 n] w fun e w' =>
      e = .returned (.slice (some ⟨w.heap.size, 0, none⟩) 0 (grownCap w n 0 22)) ∧ w' = w.drew.alloc (.cells (Builtin.zeroCells z.cells n ++ Builtin.zeroCells z.cells (grownCap w n 0 22 - n)) 22) := by
  have h1 : ¬ ((n : Int) < 0) := by omega
  have hold : (Builtin.firstCells i0.size 0 (.slice ad 0 0)).run Tryd.prog w.drew = .ok #[] w.drew := by
    cases ad with
    | none => exact run_firstCells_none _ i0.size 0 0 0
    | some a => exact run_firstCells_some _ i0.size 0 a 0 0 [] (by simp) (fun j v hj => by cases hj)
  have hrz : ∀ ty, (Builtin.append_ #[48, 3] ty #[.slice ad 0 0, .int .i64 (n : Int)]).run Tryd.prog w =
      .ok (.slice (some ⟨w.heap.size, 0, none⟩) n (grownCap w n 0 22)) (w.drew.alloc (.cells (Builtin.zeroCells z.cells n ++ Builtin.zeroCells z.cells (grownCap w n 0 22 - n)) 22)) := fun ty => by
    have h := Lib.run_append_grow_zeros w 48 3 ty 22 i0 z .i64 .i64 Tryd.underlying48 Tryd.underlying3 hi0 hz0 ad 0 0 [] hold n hn (by omega) (by omega) (by omega) (by rw [hb]; omega) (by rw [Nat.zero_add]; exact growslice_fits hn (by rw [hb]; omega))
    simpa using h
  have hGn : n ≤ grownCap w n 0 22 := grownCap_ge w _ _ _
  obtain ⟨Gc, hG⟩ : ∃ G, G = grownCap w n 0 22 := ⟨_, rfl⟩
  rw [← hG] at hrz hGn ⊢
  have hG63 : Gc ≤ 9223372036854775807 := by
    have := grownCap_le_maxLen w n 0 22 (by unfold maxLen; omega)
    rw [← hG] at this
    unfold maxLen at this
    omega
  go_enter Tryd.func106, Tryd.ntmps106
  cases ad with
  | none =>
    go_wp2_with (at_builtin; refine Lib.wpList_append_run _ rfl _ _ _ _ rfl _ _ rfl rfl _ _ (hrz _) ?_)
    all_goals (go_ret; exact ⟨rfl, rfl⟩)
  | some a =>
    obtain ⟨ab, ao, asp⟩ := a
    go_wp2_with (at_builtin; refine Lib.wpList_append_run _ rfl _ _ _ _ rfl _ _ rfl rfl _ _ (hrz _) ?_)
    all_goals (go_ret; exact ⟨rfl, rfl⟩)
theorem gro_run0 (w : World) (ad : Option Addr) : Calls Tryd.prog 106 #[.slice ad 0 0, .int .i64 0] w fun e w' => e = .returned (.slice ad 0 0) ∧ w' = w := by
  go_enter Tryd.func106, Tryd.ntmps106
  cases ad with
  | none => go_wp2; go_ret; exact ⟨rfl, rfl⟩
  | some a =>
    obtain ⟨ab, ao, asp⟩ := a
    go_wp2; go_ret; exact ⟨rfl, rfl⟩
theorem gro_w (G : Glob) (n : Nat) (h9 : n ≤ 1000000000000) : DenW Tryd.prog G 106 [.c .nil, .c (.d (.int .i64 (n : Int)))] (.w (.c (.fr 1 []))) := by
  intro w S vs hS hG hvs
  cases hvs with
  | cons h1 h2 =>
    cases h2 with
    | cons h2 h3 =>
      cases h3
      obtain ⟨ad, rfl⟩ : ∃ ad, _ = Value.slice ad 0 0 := h1
      cases h2
      obtain ⟨i0, z, hi0, hs0, hb, hz0, _, hzl, hz⟩ := elTy_ok (show elTy Tryd.prog 22 = some (1, 24, .sl []) by kernel_rfl)
      have hz1 : z.cells.size = 1 := by
        have := (hz S w).length
        simpa [D.cells] using this
      rcases Nat.eq_zero_or_pos n with rfl | hn
      · refine (gro_run0 w ad).mono ?_
        rintro e w' ⟨rfl, rfl⟩
        exact ⟨_, S, [], rfl, Below.refl _ _, fun b i hs => ⟨.inl hs, hS b i hs⟩, List.nodup_nil, .inl ⟨⟨ad, rfl⟩, rfl, rfl⟩⟩
      · refine (gro_run w ad n hn h9 i0 z hi0 hz0 hs0 hb).mono ?_
        have hGn : n ≤ grownCap w n 0 22 := grownCap_ge w _ _ _
        have hGm := grownCap_le_maxLen w n 0 22 (by unfold maxLen; omega)
        generalize grownCap w n 0 22 = Gc at *
        rintro e w' ⟨rfl, rfl⟩
        have hsz : (Builtin.zeroCells z.cells n ++ Builtin.zeroCells z.cells (Gc - n)).size = Gc := by
          simp only [Builtin.zeroCells, hz1, Array.size_append, Array.size_map, Array.size_range]
          omega
        refine ⟨_, S, [w.heap.size], rfl, (Below.refl _ _).drew.alloc (Nat.le_refl _) _, fun b i hs => ⟨.inl hs, ?_⟩, by simp, .inr ⟨w.heap.size, Gc, 22, Gc, rfl, rfl, Nat.zero_le _, hGm, ?_, by omega, Nat.le_refl _, fun i hi => ?_, ⟨_, _, (0, 0), heap_alloc_new w.drew _, thawed0 _, by simp, fun i hi => by cases hi⟩⟩⟩
        · have := hS b i hs
          have h2 : (w.drew.alloc (.cells (Builtin.zeroCells z.cells n ++ Builtin.zeroCells z.cells (Gc - n)) 22)).heap.size = w.heap.size + 1 := by simp
          omega
        · have := shape_new w.drew (Builtin.zeroCells z.cells n ++ Builtin.zeroCells z.cells (Gc - n)) 22 (0, 0)
          rw [hsz] at this
          exact this
        · have := hS _ i hi
          omega
/-! ### Lists of functions' answers -/
def idxSt (l : List (List UInt8)) (g : Nat) (caps : List D) (i : Nat) : St := ⟨ofL [(0, .w (.c (.d (sls l)))), (1, .w (.c (.d (.fn g caps)))), (7, .w (.c (.d (.int .i64 (l.length : Int))))), (8, .w (.c (.d (.int .i64 (i : Int)))))], hL [], uL []⟩
/-- The place of the first element of which p holds. -/
def idxP (p : List UInt8 → Bool) (l : List (List UInt8)) : Int := match l.findIdx? p with | some i => (i : Int) | none => -1
theorem getLs {l : List (List UInt8)} {j : Nat} (h : j < l.length) : l[j]? = some (l.getD j []) := by
  rw [List.getD_eq_getElem?_getD, List.getElem?_eq_getElem h]; rfl
theorem getLs_mem {l : List (List UInt8)} {j : Nat} (h : j < l.length) : l.getD j [] ∈ l := by
  rw [List.getD_eq_getElem?_getD, List.getElem?_eq_getElem h]; exact List.getElem_mem h
theorem idxP_some {p : List UInt8 → Bool} {l : List (List UInt8)} {i : Nat} (h : i < l.length) (hp : p (l.getD i []) = true) (hn : ∀ j, j < i → p (l.getD j []) = false) : idxP p l = (i : Int) := by
  have : l.findIdx? p = some i := by
    rw [List.findIdx?_eq_some_iff_getElem]
    have e : ∀ k (hk : k < l.length), l[k] = l.getD k [] := fun k hk => by rw [List.getD_eq_getElem?_getD, List.getElem?_eq_getElem hk]; rfl
    refine ⟨h, by rw [e i h]; exact hp, fun j hj => ?_⟩
    rw [e j (by omega)]
    simpa using hn j hj
  unfold idxP
  rw [this]
theorem idxP_none {p : List UInt8 → Bool} {l : List (List UInt8)} (hn : ∀ j, j < l.length → p (l.getD j []) = false) : idxP p l = -1 := by
  have : l.findIdx? p = none := by
    rw [List.findIdx?_eq_none_iff]
    intro x hx
    obtain ⟨j, hj, rfl⟩ := List.getElem_of_mem hx
    have := hn j hj
    rw [List.getD_eq_getElem?_getD, List.getElem?_eq_getElem hj] at this
    exact this
  unfold idxP
  rw [this]
theorem idxP_any (p : List UInt8 → Bool) (l : List (List UInt8)) : decide (0 ≤ idxP p l) = l.any p := by
  unfold idxP
  cases h : l.findIdx? p with
  | some i =>
    rw [List.findIdx?_eq_some_iff_getElem] at h
    obtain ⟨h1, h2, _⟩ := h
    have : l.any p = true := List.any_eq_true.2 ⟨_, List.getElem_mem h1, h2⟩
    rw [this]
    exact decide_eq_true (by simp only; omega)
  | none =>
    rw [List.findIdx?_eq_none_iff] at h
    have : l.any p = false := List.any_eq_false.2 fun x hx => by rw [h x hx]; simp
    rw [this]
    rfl
/-! ### Lists joined -/
def cncSt1 (ls : List (List (List UInt8))) (i : Nat) : St := ⟨ofL [(0, .w (.c (.d (.sl (ls.map sls))))), (3, .w (.c (.d (.int .i64 ((ls.take i).flatten.length : Int))))), (9, .w (.c (.d (.sl (ls.map sls))))), (10, .w (.c (.d (.int .i64 (ls.length : Int))))), (11, .w (.c (.d (.int .i64 (i : Int)))))], hL [], uL []⟩
def cncSt2 (ls : List (List (List UInt8))) (i : Nat) : St := ⟨ofL [(6, .w (.c (.own 1 1 0 (ls.take i).flatten.length))), (25, .w (.c (.d (.sl (ls.map sls))))), (26, .w (.c (.d (.int .i64 (ls.length : Int))))), (27, .w (.c (.d (.int .i64 (i : Int)))))], hL [(1, .row 1 ((ls.take i).flatten.map fun l => D.sl (l.map bD)))], uL [1]⟩
theorem take_flat3 (ls : List (List (List UInt8))) {i : Nat} (h : i < ls.length) : (ls.take (i + 1)).flatten = (ls.take i).flatten ++ ls.getD i [] := by
  rw [List.getD_eq_getElem?_getD, List.getElem?_eq_getElem h, List.take_succ_eq_append_getElem h, List.flatten_append]; simp
theorem flat_le3 (ls : List (List (List UInt8))) {i : Nat} (h : i < ls.length) : (ls.take i).flatten.length + (ls.getD i []).length ≤ ls.flatten.length := by
  rw [← List.length_append, ← take_flat3 ls h]
  conv => rhs; rw [← List.take_append_drop (i + 1) ls]
  rw [List.flatten_append, List.length_append]; omega
theorem getL3 {l : List (List (List UInt8))} {j : Nat} (h : j < l.length) : l[j]? = some (l.getD j []) := by
  rw [List.getD_eq_getElem?_getD, List.getElem?_eq_getElem h]; rfl
def lp_conc_0 : SCode :=
  .seq (.reg [⟨(some 12), .bin .lss (.t 11) (.t 10), none⟩])
  (.seq (.cond (.t 12) (.skip)
   (.exit 0))
  (.seq (.block 1 (.seq (.reg [⟨(some 13), .idxSl 1 (.t 9) (.t 11), none⟩,
     ⟨(some 14), .load .sc (.t 13), none⟩,
     ⟨(some 5), .mv (.t 14), none⟩])
   (.seq (.reg [⟨(some 15), .mv (.t 3), none⟩,
     ⟨(some 16), .mv (.t 5), none⟩,
     ⟨(some 17), .len (.t 16), none⟩,
     ⟨(some 18), .bin .add (.t 15) (.t 17), none⟩,
     ⟨(some 3), .mv (.t 18), none⟩])
   (.seq (.reg [⟨(some 19), .mv (.t 3), none⟩,
     ⟨(some 20), .bin .lss (.t 19) (.k (.c (.d (.int .i64 0)))), none⟩])
   (.cond (.t 20) (.reg [⟨none, .lenStr .u, none⟩])
    (.skip))))))
  (.reg [⟨(some 22), .bin .add (.t 11) (.k (.c (.d (.int .i64 1)))), none⟩,
    ⟨(some 11), .mv (.t 22), none⟩])))
def lp_conc_1 : SCode :=
  .seq (.reg [⟨(some 28), .bin .lss (.t 27) (.t 26), none⟩])
  (.seq (.cond (.t 28) (.skip)
   (.exit 2))
  (.seq (.block 3 (.seq (.reg [⟨(some 29), .idxSl 1 (.t 25) (.t 27), none⟩,
     ⟨(some 30), .load .sc (.t 29), none⟩,
     ⟨(some 8), .mv (.t 30), none⟩])
   (.reg [⟨(some 31), .mv (.t 6), none⟩,
     ⟨(some 32), .mv (.t 8), none⟩,
     ⟨(some 33), .app false 1 24 (.t 31) (.t 32), none⟩,
     ⟨(some 6), .mv (.t 33), none⟩])))
  (.reg [⟨(some 34), .bin .add (.t 27) (.k (.c (.d (.int .i64 1)))), none⟩,
    ⟨(some 27), .mv (.t 34), none⟩])))
def sf_conc : SFn := ⟨1, 36,
  .seq (.reg [⟨(some 2), .mv (.k (.c .nil)), none⟩])
  (.seq (.reg [⟨(some 3), .mv (.k (.c (.d (.int .i64 0)))), none⟩])
  (.seq (.seq (.reg [⟨(some 9), .mv (.t 0), none⟩,
    ⟨(some 10), .len (.t 9), none⟩,
    ⟨(some 11), .mv (.k (.c (.d (.int .i64 0)))), none⟩])
  (.block 0 (.loop lp_conc_0)))
  (.seq (.reg [⟨(some 23), .mv (.t 3), none⟩,
    ⟨(some 24), .call 106 [(.k (.c .nil)), (.t 23)] (some (0, 1)), none⟩,
    ⟨(some 6), .mv (.t 24), none⟩])
  (.seq (.seq (.reg [⟨(some 25), .mv (.t 0), none⟩,
    ⟨(some 26), .len (.t 25), none⟩,
    ⟨(some 27), .mv (.k (.c (.d (.int .i64 0)))), none⟩])
  (.block 2 (.loop lp_conc_1)))
  (.seq (.reg [⟨(some 35), .mv (.t 6), none⟩,
    ⟨(some 2), .mv (.t 35), none⟩])
  (.ret)))))),
  [(2, none)]⟩
theorem cf_conc : compFn Tryd.prog { own := [24], comp := [], frz := [], nils := [], bad := true } Tryd.f65 = some sf_conc := by kernel_rfl
set_option maxHeartbeats 1600000 in
theorem conc_f (G : Glob) (ls : List (List (List UInt8))) (hl : ls.length ≤ 9223372036854775807) (hf : ls.flatten.length ≤ 1000000000) : Den Tryd.prog G 65 [.sl (ls.map sls)] (.w (.c (.fr 1 (ls.flatten.map fun l => D.sl (l.map bD))))) := by
  refine den_walk Tryd.func65 cf_conc rfl rfl ?_
  simp only [sf_conc, putAll, wx, wy, wz, stV, seval, IntWalk.iteOmega, IntWalk.toNatUp, reduceCtorEq]
  refine loop_st (cncSt1 ls) (fun i => ls.length - i) (fun i => i ≤ ls.length) 0 (Nat.zero_le _) ?_ ?_
  · refine ent_l (fun i => 0) ?_ ?_ rfl rfl <;> simp only [wx, wex, wez, stV, seval, IntWalk.iteOmega, IntWalk.toNatUp, reduceCtorEq] <;> rfl
  · intro i hi
    by_cases hlt : i < ls.length
    · have g1 := getL3 hlt
      have h5 := flat_le3 ls hlt
      have h6 := take_flat3 ls hlt
      have h7 : (ls.take (i + 1)).flatten.length = (ls.take i).flatten.length + (ls.getD i []).length := by rw [h6, List.length_append]
      simp only [lp_conc_0, cncSt1, wx, wy, wz, stV, seval, IntWalk.iteOmega, IntWalk.toNatUp, reduceCtorEq, get_map, g1]
      refine lop_next (i + 1) (by omega) (by omega) (ent_l (fun i => 0) ?_ ?_ rfl rfl) <;> simp only [wx, wex, wez, stV, seval, IntWalk.iteOmega, IntWalk.toNatUp, reduceCtorEq, h7]
    · have ht : ls.take i = ls := List.take_of_length_le (by omega)
      have hg := gro_w G ls.flatten.length (by omega)
      simp only [lp_conc_0, cncSt1, wx, wy, wz, stV, seval, IntWalk.iteOmega, IntWalk.toNatUp, reduceCtorEq, ht]
      refine st_callW hg rfl rfl (.inl rfl) ?_
      simp only [wx, wy, wz, stV, seval, IntWalk.iteOmega, IntWalk.toNatUp, reduceCtorEq]
      refine loop_st (cncSt2 ls) (fun i => ls.length - i) (fun i => i ≤ ls.length) 0 (Nat.zero_le _) ?_ ?_
      · refine ent_l (fun i => 192) ?_ ?_ rfl rfl <;> simp only [wx, wex, wez, stV, seval, IntWalk.iteOmega, IntWalk.toNatUp, reduceCtorEq] <;> rfl
      · intro i hi
        by_cases hlt : i < ls.length
        · have g1 := getL3 hlt
          have h5 := flat_le3 ls hlt
          have h6 := take_flat3 ls hlt
          simp only [lp_conc_1, cncSt2, wx, wy, wz, stV, seval, IntWalk.iteOmega, IntWalk.toNatUp, reduceCtorEq, get_map, g1, srcV, allSz_ls]
          refine lop_next (i + 1) (by omega) (by omega) (ent_l (fun i => 264) ?_ ?_ rfl rfl) <;> simp only [wx, wex, wez, stV, seval, IntWalk.iteOmega, IntWalk.toNatUp, reduceCtorEq, h6]
        · have ht : ls.take i = ls := List.take_of_length_le (by omega)
          simp only [lp_conc_1, cncSt2, wx, wy, wz, stV, seval, IntWalk.iteOmega, IntWalk.toNatUp, reduceCtorEq, ht]
          exact ret_own (id := 1) (n := ls.flatten.length) (s := 1) (by simp only [wx, stV, seval, IntWalk.iteOmega, IntWalk.toNatUp, reduceCtorEq]) (by simp only [wx, stV, seval, IntWalk.iteOmega, IntWalk.toNatUp, reduceCtorEq]) (by simp only [List.length_map])
theorem conc_c (G : Glob) (ls : List (List (List UInt8))) (hl : ls.length ≤ 9223372036854775807) (hf : ls.flatten.length ≤ 1000000000) : Den Tryd.prog G 65 [.sl (ls.map sls)] (.w (.c (.d (.sl (ls.flatten.map fun l => D.sl (l.map bD)))))) := den_ro (conc_f G ls hl hf)
end Go.Proofs.YtjgkchmdhicmpaaDoor
set_option linter.unusedVariables false
set_option linter.unusedSimpArgs false
namespace Go.Proofs.YtjgkchmdhicmpaaDoor
open Go.RowKit

theorem ends_len {f : Nat → List UInt8} : ∀ {n : Nat}, (∀ i, i < n → (f i).length = 16) → (endsM f n).length = 16 * n
  | 0, _ => rfl
  | n + 1, h => by rw [endsM_succ, List.length_append, ends_len (fun i hi => h i (by omega)), h n (by omega)]; omega
theorem ends_1 (f : Nat → List UInt8) : f 0 = endsM f 1 := by simp [endsM]
theorem ends_map (f : Nat → List UInt8) (n : Nat) : (endsM f n).map bD ++ (f n).map bD = (endsM f (n + 1)).map bD := by rw [endsM_succ, List.map_append]
def ebV : Nat → V
  | 0 => .w (.c .nil)
  | j + 1 => .w (.c (.own 1 1 0 (16 * (j + 1))))
def ebH (f : Nat → List UInt8) : Nat → List (Nat × Ob)
  | 0 => []
  | j + 1 => [(1, .row 1 ((endsM f (j + 1)).map bD))]
def pubF (seed : List UInt8) (i : Nat) (c : Nat) : List UInt8 := chainK (secM seed i c) 15
theorem pubF_len (seed : List UInt8) (i c : Nat) : (pubF seed i c).length = 16 := chain16 (secM_len _ _ _) _
def pubV (seed : List UInt8) (index : Int) : List UInt8 := if chkE seed index = 0 then pubM seed index.toNat else []
def pbSt (seed : List UInt8) (i : Nat) (j : Nat) : St := ⟨ofL [(0, .w (.c (.d (.sl (seed.map bD))))), (1, .w (.c (.d (.int .i64 (i : Int))))), (7, ebV j), (15, .w (.c (.d (.int .i64 (j : Int)))))], hL (ebH (pubF seed i) j), uL [1]⟩
def lp_pub_0 : SCode :=
  .seq (.reg [⟨(some 16), .bin .lss (.t 15) (.k (.c (.d (.int .i64 35)))), none⟩])
  (.seq (.cond (.t 16) (.skip)
   (.exit 0))
  (.seq (.block 1 (.seq (.reg [⟨(some 17), .mv (.t 15), none⟩,
     ⟨(some 8), .mv (.t 17), none⟩])
   (.reg [⟨(some 18), .mv (.t 7), none⟩,
     ⟨(some 19), .mv (.t 0), none⟩,
     ⟨(some 20), .mv (.t 1), none⟩,
     ⟨(some 21), .mv (.t 8), none⟩,
     ⟨(some 22), .call 111 [(.t 19), (.t 20), (.t 21)] none, none⟩,
     ⟨(some 23), .call 94 [(.t 22), (.k (.c (.d (.int .i64 15))))] none, none⟩,
     ⟨(some 24), .app false 1 1 (.t 18) (.t 23), none⟩,
     ⟨(some 7), .mv (.t 24), none⟩])))
  (.reg [⟨(some 25), .bin .add (.t 15) (.k (.c (.d (.int .i64 1)))), none⟩,
    ⟨(some 15), .mv (.t 25), none⟩])))
def sf_pub : SFn := ⟨2, 28,
  .seq (.reg [⟨(some 4), .mv (.k (.c .nil)), none⟩,
    ⟨(some 5), .mv (.k (.c (.d (.int .i64 0)))), none⟩])
  (.seq (.seq (.reg [⟨(some 9), .mv (.t 0), none⟩,
    ⟨(some 10), .mv (.t 1), none⟩,
    ⟨(some 11), .call 110 [(.t 9), (.t 10)] none, none⟩,
    ⟨(some 6), .mv (.t 11), none⟩])
  (.seq (.reg [⟨(some 12), .mv (.t 6), none⟩,
    ⟨(some 13), .bin .neq (.t 12) (.k (.c (.d (.int .i64 0)))), none⟩])
  (.cond (.t 13) (.seq (.reg [⟨(some 14), .mv (.t 6), none⟩,
     ⟨(some 4), .mv (.k (.c .nil)), none⟩,
     ⟨(some 5), .mv (.t 14), none⟩])
   (.ret))
   (.skip))))
  (.seq (.reg [⟨(some 7), .mv (.k (.c .nil)), none⟩])
  (.seq (.seq (.reg [⟨(some 15), .mv (.k (.c (.d (.int .i64 0)))), none⟩])
  (.block 0 (.loop lp_pub_0)))
  (.seq (.reg [⟨(some 26), .mv (.t 7), none⟩,
    ⟨(some 27), .call 95 [(.t 26)] (some (0, 1)), none⟩,
    ⟨(some 4), .mv (.t 27), none⟩,
    ⟨(some 5), .mv (.k (.c (.d (.int .i64 0)))), none⟩])
  (.ret))))),
  [(4, none), (5, none)]⟩
theorem cf_pub : compFn Tryd.prog { own := [27], comp := [], frz := [], nils := [] } Tryd.f98 = some sf_pub := by kernel_rfl
set_option maxHeartbeats 3200000 in
theorem pub_f (G : Glob) (hF : G.at 0 = some (.ra (firstK.map wD))) (hG : G.at 1 = some (.ra (constK.map wD))) (seed : List UInt8) (index : Int) : Den Tryd.prog G 98 [.sl (seed.map bD), .int .i64 index] (.tup [.c (.fr 1 ((pubV seed index).map bD)), .c (.d (.int .i64 (chkE seed index)))]) := by
  refine den_walk Tryd.func98 cf_pub rfl rfl ?_
  have hk := ochk_c G seed index
  by_cases h : chkE seed index = 0
  · obtain ⟨k1, k2, k3⟩ := chkE_ok h
    have hV : pubV seed index = pubM seed index.toNat := if_pos h
    rw [h] at hk
    rw [hV, h]
    obtain ⟨i, rfl⟩ := Int.eq_ofNat_of_zero_le k2
    have e1 : ((i : Int).toNat) = i := rfl
    rw [e1]
    simp only [sf_pub, putAll, wx, wy, wz, stV, seval, IntWalk.iteOmega, IntWalk.toNatUp, reduceCtorEq]
    refine st_call (hk) rfl (.inl rfl) ?_
    simp only [wx, wy, wz, stV, seval, IntWalk.iteOmega, IntWalk.toNatUp, reduceCtorEq]
    refine loop_st (pbSt seed i) (fun j => 35 - j) (fun j => j ≤ 35) 0 (Nat.zero_le _) ?_ ?_
    · refine ent_l (fun i => i) ?_ ?_ rfl rfl <;> simp only [wx, wex, wez, stV, seval, IntWalk.iteOmega, IntWalk.toNatUp, reduceCtorEq, ebV, ebH]
    · intro j hj
      by_cases hlt : j < 35
      · have hs := sec0_c G hF hG seed i j k1 (by omega) hlt
        have hc := chain_c G hF hG (secM seed i j) (by rw [secM_len]; decide) 15
        have hm : chainK (secM seed i j) (min (15 : Int) 65536).toNat = pubF seed i j := rfl
        rw [hm] at hc
        have hl := pubF_len seed i j
        rcases j with _ | j
        · have h0 := ends_1 (pubF seed i)
          rw [h0] at hc hl
          simp only [lp_pub_0, pbSt, ebV, ebH, wx, wy, wz, stV, seval, IntWalk.iteOmega, IntWalk.toNatUp, reduceCtorEq]
          refine st_call (hs) rfl (.inl rfl) ?_
          simp only [wx, wy, wz, stV, seval, IntWalk.iteOmega, IntWalk.toNatUp, reduceCtorEq]
          refine st_call (hc) rfl (.inl rfl) ?_
          simp only [srcV, hl, wx, wy, wz, stV, seval, IntWalk.iteOmega, IntWalk.toNatUp, reduceCtorEq]
          refine lop_next (0 + 1) (by omega) (by omega) (ent_l (fun _ => 192) ?_ ?_ rfl rfl) <;> simp only [wx, wex, wez, stV, seval, IntWalk.iteOmega, IntWalk.toNatUp, reduceCtorEq, ebV, ebH, hl]
        · have h0 := ends_map (pubF seed i) (j + 1)
          have hl1 : (endsM (pubF seed i) (j + 1)).length = 16 * (j + 1) := ends_len fun _ _ => pubF_len _ _ _
          have hl2 : (endsM (pubF seed i) (j + 1 + 1)).length = 16 * (j + 1 + 1) := ends_len fun _ _ => pubF_len _ _ _
          simp only [lp_pub_0, pbSt, ebV, ebH, wx, wy, wz, stV, seval, IntWalk.iteOmega, IntWalk.toNatUp, reduceCtorEq]
          refine st_call (hs) rfl (.inl rfl) ?_
          simp only [wx, wy, wz, stV, seval, IntWalk.iteOmega, IntWalk.toNatUp, reduceCtorEq]
          refine st_call (hc) rfl (.inl rfl) ?_
          simp only [srcV, hl, hl1, hl2, h0, wx, wy, wz, stV, seval, IntWalk.iteOmega, IntWalk.toNatUp, reduceCtorEq]
          refine lop_next (j + 1 + 1) (by omega) (by omega) (ent_l (fun _ => 192) ?_ ?_ rfl rfl) <;> simp only [wx, wex, wez, stV, seval, IntWalk.iteOmega, IntWalk.toNatUp, reduceCtorEq, ebV, ebH, hl2]
      · obtain rfl : j = 35 := by omega
        have hl : (endsM (pubF seed i) 35).length = 560 := ends_len fun _ _ => pubF_len _ _ _
        have hh := short_c G hF hG (endsM (pubF seed i) 35) (by omega)
        have hm : shortK (endsM (pubF seed i) 35) = pubM seed i := rfl
        rw [hm] at hh
        have ht : (endsM (pubF seed i) 35).take 560 = endsM (pubF seed i) 35 := List.take_of_length_le (by omega)
        simp only [lp_pub_0, pbSt, ebV, ebH, wx, wy, wz, stV, seval, IntWalk.iteOmega, IntWalk.toNatUp, reduceCtorEq]
        generalize endsM (pubF seed i) 35 = z at *
        refine st_call hh (by simp only [wx, wy, wz, stV, seval, IntWalk.iteOmega, IntWalk.toNatUp, reduceCtorEq, hl, ht]) (.inr (fl_b _ _)) ?_
        simp only [wx, wy, wz, stV, seval, IntWalk.iteOmega, IntWalk.toNatUp, reduceCtorEq]
        exact ret_f2 (by simp only [wx, wy, wz, stV, seval, IntWalk.iteOmega, IntWalk.toNatUp, reduceCtorEq]) (by simp only [wx, wy, wz, stV, seval, IntWalk.iteOmega, IntWalk.toNatUp, reduceCtorEq])
  · have hV : pubV seed index = [] := if_neg h
    rw [hV]
    generalize chkE seed index = e at *
    simp only [sf_pub, putAll, wx, wy, wz, stV, seval, IntWalk.iteOmega, IntWalk.toNatUp, reduceCtorEq]
    refine st_call (hk) rfl (.inl rfl) ?_
    simp only [wx, wy, wz, stV, seval, IntWalk.iteOmega, IntWalk.toNatUp, reduceCtorEq]
    exact ret_f2 (by simp only [wx, wy, wz, stV, seval, IntWalk.iteOmega, IntWalk.toNatUp, reduceCtorEq]) (by simp only [wx, wy, wz, stV, seval, IntWalk.iteOmega, IntWalk.toNatUp, reduceCtorEq])
theorem pub_c (G : Glob) (hF : G.at 0 = some (.ra (firstK.map wD))) (hG : G.at 1 = some (.ra (constK.map wD))) (seed : List UInt8) (index : Int) : Den Tryd.prog G 98 [.sl (seed.map bD), .int .i64 index] (.tup [.c (.d (.sl ((pubV seed index).map bD))), .c (.d (.int .i64 (chkE seed index)))]) := den_ro2 (pub_f G hF hG seed index)
theorem secV_ok {seed : List UInt8} {i c : Nat} (h : seed.length = 32) (hi : i ≤ 2147483647) (hc : c < 35) : secE seed (i : Int) (c : Int) = 0 ∧ secV seed (i : Int) (c : Int) = secM seed i c := by
  have hk : chkE seed (i : Int) = 0 := by unfold chkE; rw [if_neg (by omega), if_neg (by omega)]
  have hE : secE seed (i : Int) (c : Int) = 0 := by unfold secE; rw [if_pos hk, if_neg (by omega)]
  exact ⟨hE, if_pos hE⟩
def rpbSt (seed : List UInt8) (i : Nat) (j : Nat) : St := ⟨ofL [(0, .w (.c (.d (.sl (seed.map bD))))), (1, .w (.c (.d (.int .i64 (i : Int))))), (7, .w (.c (.own 1 1 0 (16 * j)))), (8, .w (.c (.d (.int .i64 (j : Int)))))], hL [(1, .row 1 ((endsM (pubF seed i) j).map bD))], uL [1]⟩
def lp_rpub_0 : SCode :=
  .seq (.seq (.reg [⟨(some 18), .mv (.t 8), none⟩,
    ⟨(some 19), .bin .lss (.t 18) (.k (.c (.d (.int .i64 35)))), none⟩])
  (.cond (.t 19) (.skip)
   (.exit 0)))
  (.seq (.block 1 (.seq (.reg [⟨(some 23), .mv (.t 0), none⟩,
     ⟨(some 24), .mv (.t 1), none⟩,
     ⟨(some 25), .mv (.t 8), none⟩,
     ⟨(some 26), .call 85 [(.t 23), (.t 24), (.t 25)] none, none⟩,
     ⟨(some 22), .mv (.t 26), none⟩,
     ⟨(some 27), .extract (.t 22) 0, none⟩,
     ⟨(some 28), .extract (.t 22) 1, none⟩,
     ⟨(some 9), .mv (.t 27), none⟩,
     ⟨(some 10), .mv (.t 28), none⟩])
   (.reg [⟨(some 29), .mv (.t 7), none⟩,
     ⟨(some 30), .mv (.t 9), none⟩,
     ⟨(some 31), .call 86 [(.t 30), (.k (.c (.d (.int .i64 15))))] none, none⟩,
     ⟨(some 32), .app false 1 1 (.t 29) (.t 31), none⟩,
     ⟨(some 7), .mv (.t 32), none⟩])))
  (.reg [⟨(some 20), .mv (.t 8), none⟩,
    ⟨(some 21), .bin .add (.t 20) (.k (.c (.d (.int .i64 1)))), none⟩,
    ⟨(some 8), .mv (.t 21), none⟩]))
def sf_rpub : SFn := ⟨2, 35,
  .seq (.reg [⟨(some 4), .mv (.k (.c .nil)), none⟩,
    ⟨(some 5), .mv (.k (.c (.d (.int .i64 0)))), none⟩])
  (.seq (.seq (.reg [⟨(some 11), .mv (.t 0), none⟩,
    ⟨(some 12), .mv (.t 1), none⟩,
    ⟨(some 13), .call 83 [(.t 11), (.t 12)] none, none⟩,
    ⟨(some 6), .mv (.t 13), none⟩])
  (.seq (.reg [⟨(some 14), .mv (.t 6), none⟩,
    ⟨(some 15), .bin .neq (.t 14) (.k (.c (.d (.int .i64 0)))), none⟩])
  (.cond (.t 15) (.seq (.reg [⟨(some 16), .mv (.t 6), none⟩,
     ⟨(some 4), .mv (.k (.c .nil)), none⟩,
     ⟨(some 5), .mv (.t 16), none⟩])
   (.ret))
   (.skip))))
  (.seq (.reg [⟨(some 17), .bldSl true 0 1 (.int .u8 0) [], none⟩,
    ⟨(some 7), .mv (.t 17), none⟩])
  (.seq (.seq (.reg [⟨(some 8), .mv (.k (.c (.d (.int .i64 0)))), none⟩])
  (.block 0 (.loop lp_rpub_0)))
  (.seq (.reg [⟨(some 33), .mv (.t 7), none⟩,
    ⟨(some 34), .call 87 [(.t 33)] (some (0, 1)), none⟩,
    ⟨(some 4), .mv (.t 34), none⟩,
    ⟨(some 5), .mv (.k (.c (.d (.int .i64 0)))), none⟩])
  (.ret))))),
  [(4, none), (5, none)]⟩
theorem cf_rpub : compFn Tryd.prog { own := [17, 34], comp := [], frz := [], nils := [] } Tryd.f80 = some sf_rpub := by kernel_rfl
set_option maxHeartbeats 3200000 in
theorem rpub_f (G : Glob) (seed : List UInt8) (index : Int) : Den Tryd.prog G 80 [.sl (seed.map bD), .int .i64 index] (.tup [.c (.fr 1 ((pubV seed index).map bD)), .c (.d (.int .i64 (chkE seed index)))]) := by
  refine den_walk Tryd.func80 cf_rpub rfl rfl ?_
  have hk := rochk_c G seed index
  by_cases h : chkE seed index = 0
  · obtain ⟨k1, k2, k3⟩ := chkE_ok h
    have hV : pubV seed index = pubM seed index.toNat := if_pos h
    rw [h] at hk
    rw [hV, h]
    obtain ⟨i, rfl⟩ := Int.eq_ofNat_of_zero_le k2
    have e1 : ((i : Int).toNat) = i := rfl
    rw [e1]
    simp only [sf_rpub, putAll, wx, wy, wz, stV, seval, IntWalk.iteOmega, IntWalk.toNatUp, reduceCtorEq]
    refine st_call (hk) rfl (.inl rfl) ?_
    simp only [wx, wy, wz, stV, seval, IntWalk.iteOmega, IntWalk.toNatUp, reduceCtorEq]
    refine loop_st (rpbSt seed i) (fun j => 35 - j) (fun j => j ≤ 35) 0 (Nat.zero_le _) ?_ ?_
    · refine ent_l (fun _ => 136) ?_ ?_ rfl rfl <;> simp only [wx, wex, wez, stV, seval, IntWalk.iteOmega, IntWalk.toNatUp, reduceCtorEq, endsM, List.range_zero]
    · intro j hj
      have hl1 : (endsM (pubF seed i) j).length = 16 * j := ends_len fun _ _ => pubF_len _ _ _
      by_cases hlt : j < 35
      · have hs := rsec_c G seed (i : Int) (j : Int)
        rw [(secV_ok k1 (by omega) hlt).1, (secV_ok k1 (by omega) hlt).2] at hs
        have hc := rchain_c G (secM seed i j) (by rw [secM_len]; decide) 15
        have hm : chainK (secM seed i j) (min (15 : Int) 65536).toNat = pubF seed i j := rfl
        rw [hm] at hc
        have hl := pubF_len seed i j
        have h0 := ends_map (pubF seed i) j
        have hl2 : (endsM (pubF seed i) (j + 1)).length = 16 * (j + 1) := ends_len fun _ _ => pubF_len _ _ _
        simp only [lp_rpub_0, rpbSt, wx, wy, wz, stV, seval, IntWalk.iteOmega, IntWalk.toNatUp, reduceCtorEq]
        refine st_call (hs) rfl (.inl rfl) ?_
        simp only [wx, wy, wz, stV, seval, IntWalk.iteOmega, IntWalk.toNatUp, reduceCtorEq]
        refine st_call (hc) rfl (.inl rfl) ?_
        simp only [srcV, hl, hl1, hl2, h0, wx, wy, wz, stV, seval, IntWalk.iteOmega, IntWalk.toNatUp, reduceCtorEq]
        refine lop_next (j + 1) (by omega) (by omega) (ent_l (fun _ => 256) ?_ ?_ rfl rfl) <;> simp only [wx, wex, wez, stV, seval, IntWalk.iteOmega, IntWalk.toNatUp, reduceCtorEq, hl2]
      · obtain rfl : j = 35 := by omega
        have hh := rshF_f G (endsM (pubF seed i) 35) (by omega)
        have hm : shortK (endsM (pubF seed i) 35) = pubM seed i := rfl
        rw [hm] at hh
        have ht : (endsM (pubF seed i) 35).take 560 = endsM (pubF seed i) 35 := List.take_of_length_le (by omega)
        have hl : (endsM (pubF seed i) 35).length = 560 := hl1
        simp only [lp_rpub_0, rpbSt, wx, wy, wz, stV, seval, IntWalk.iteOmega, IntWalk.toNatUp, reduceCtorEq]
        generalize endsM (pubF seed i) 35 = z at *
        refine st_call hh (by simp only [wx, wy, wz, stV, seval, IntWalk.iteOmega, IntWalk.toNatUp, reduceCtorEq, hl, ht]) (.inr (fl_b _ _)) ?_
        simp only [wx, wy, wz, stV, seval, IntWalk.iteOmega, IntWalk.toNatUp, reduceCtorEq]
        exact ret_f2 (by simp only [wx, wy, wz, stV, seval, IntWalk.iteOmega, IntWalk.toNatUp, reduceCtorEq]) (by simp only [wx, wy, wz, stV, seval, IntWalk.iteOmega, IntWalk.toNatUp, reduceCtorEq])
  · have hV : pubV seed index = [] := if_neg h
    rw [hV]
    generalize chkE seed index = e at *
    simp only [sf_rpub, putAll, wx, wy, wz, stV, seval, IntWalk.iteOmega, IntWalk.toNatUp, reduceCtorEq]
    refine st_call (hk) rfl (.inl rfl) ?_
    simp only [wx, wy, wz, stV, seval, IntWalk.iteOmega, IntWalk.toNatUp, reduceCtorEq]
    exact ret_f2 (by simp only [wx, wy, wz, stV, seval, IntWalk.iteOmega, IntWalk.toNatUp, reduceCtorEq]) (by simp only [wx, wy, wz, stV, seval, IntWalk.iteOmega, IntWalk.toNatUp, reduceCtorEq])
theorem rpub_c (G : Glob) (seed : List UInt8) (index : Int) : Den Tryd.prog G 80 [.sl (seed.map bD), .int .i64 index] (.tup [.c (.d (.sl ((pubV seed index).map bD))), .c (.d (.int .i64 (chkE seed index)))]) := den_ro2 (rpub_f G seed index)
/-! ### Signatures -/
def sigE (seed : List UInt8) (index : Int) (digest : List UInt8) : Int := if chkE seed index = 0 then dgtE digest else chkE seed index
def sigV (seed : List UInt8) (index : Int) (digest : List UInt8) : List (List UInt8) := if sigE seed index digest = 0 then sigM seed index.toNat digest else []
def sgV : Nat → V
  | 0 => .w (.c .nil)
  | j + 1 => .w (.c (.own 1 1 0 (j + 1)))
def sgH (seed : List UInt8) (i : Nat) (digest : List UInt8) : Nat → List (Nat × Ob)
  | 0 => []
  | j + 1 => [(1, .row 1 ((sigN seed i digest (j + 1)).map fun l => D.sl (l.map bD)))]
def sgSt (seed : List UInt8) (i : Nat) (digest : List UInt8) (j : Nat) : St := ⟨ofL [(0, .w (.c (.d (.sl (seed.map bD))))), (1, .w (.c (.d (.int .i64 (i : Int))))), (9, .w (.c (.d (.sl ((digN digest).map iD))))), (11, sgV j), (27, .w (.c (.d (.int .i64 (j : Int)))))], hL (sgH seed i digest j), uL [1]⟩
def rsgSt (seed : List UInt8) (i : Nat) (digest : List UInt8) (j : Nat) : St := ⟨ofL [(0, .w (.c (.d (.sl (seed.map bD))))), (1, .w (.c (.d (.int .i64 (i : Int))))), (9, .w (.c (.d (.sl ((digN digest).map iD))))), (11, sgV j), (12, .w (.c (.d (.int .i64 (j : Int)))))], hL (sgH seed i digest j), uL [1]⟩
theorem sigE_ok {seed : List UInt8} {index : Int} {digest : List UInt8} (h : chkE seed index = 0) (hd : digest.length = 16) : sigE seed index digest = 0 ∧ sigV seed index digest = sigM seed index.toNat digest := by
  have hE : sigE seed index digest = 0 := by unfold sigE; rw [if_pos h]; exact (dig_ok hd).1
  exact ⟨hE, if_pos hE⟩
def lp_sgn_0 : SCode :=
  .seq (.reg [⟨(some 28), .bin .lss (.t 27) (.k (.c (.d (.int .i64 35)))), none⟩])
  (.seq (.cond (.t 28) (.skip)
   (.exit 0))
  (.seq (.block 1 (.seq (.reg [⟨(some 29), .mv (.t 27), none⟩,
     ⟨(some 12), .mv (.t 29), none⟩])
   (.reg [⟨(some 30), .mv (.t 11), none⟩,
     ⟨(some 31), .mv (.t 0), none⟩,
     ⟨(some 32), .mv (.t 1), none⟩,
     ⟨(some 33), .mv (.t 12), none⟩,
     ⟨(some 34), .call 111 [(.t 31), (.t 32), (.t 33)] none, none⟩,
     ⟨(some 35), .mv (.t 9), none⟩,
     ⟨(some 36), .mv (.t 12), none⟩,
     ⟨(some 37), .idxSl 1 (.t 35) (.t 36), none⟩,
     ⟨(some 38), .load .sc (.t 37), none⟩,
     ⟨(some 39), .call 94 [(.t 34), (.t 38)] none, none⟩,
     ⟨(some 40), .bldSl false 1 1 (.sl []) [(0, (.t 39))], none⟩,
     ⟨(some 41), .app false 1 24 (.t 30) (.t 40), none⟩,
     ⟨(some 11), .mv (.t 41), none⟩])))
  (.reg [⟨(some 42), .bin .add (.t 27) (.k (.c (.d (.int .i64 1)))), none⟩,
    ⟨(some 27), .mv (.t 42), none⟩])))
def sf_sgn : SFn := ⟨3, 44,
  .seq (.reg [⟨(some 6), .mv (.k (.c .nil)), none⟩,
    ⟨(some 7), .mv (.k (.c (.d (.int .i64 0)))), none⟩])
  (.seq (.seq (.reg [⟨(some 13), .mv (.t 0), none⟩,
    ⟨(some 14), .mv (.t 1), none⟩,
    ⟨(some 15), .call 110 [(.t 13), (.t 14)] none, none⟩,
    ⟨(some 8), .mv (.t 15), none⟩])
  (.seq (.reg [⟨(some 16), .mv (.t 8), none⟩,
    ⟨(some 17), .bin .neq (.t 16) (.k (.c (.d (.int .i64 0)))), none⟩])
  (.cond (.t 17) (.seq (.reg [⟨(some 18), .mv (.t 8), none⟩,
     ⟨(some 6), .mv (.k (.c .nil)), none⟩,
     ⟨(some 7), .mv (.t 18), none⟩])
   (.ret))
   (.skip))))
  (.seq (.reg [⟨(some 20), .mv (.t 2), none⟩,
    ⟨(some 21), .call 92 [(.t 20)] none, none⟩,
    ⟨(some 19), .mv (.t 21), none⟩,
    ⟨(some 22), .extract (.t 19) 0, none⟩,
    ⟨(some 23), .extract (.t 19) 1, none⟩,
    ⟨(some 9), .mv (.t 22), none⟩,
    ⟨(some 10), .mv (.t 23), none⟩])
  (.seq (.seq (.reg [⟨(some 24), .mv (.t 10), none⟩,
    ⟨(some 25), .bin .neq (.t 24) (.k (.c (.d (.int .i64 0)))), none⟩])
  (.cond (.t 25) (.seq (.reg [⟨(some 26), .mv (.t 10), none⟩,
     ⟨(some 6), .mv (.k (.c .nil)), none⟩,
     ⟨(some 7), .mv (.t 26), none⟩])
   (.ret))
   (.skip)))
  (.seq (.reg [⟨(some 11), .mv (.k (.c .nil)), none⟩])
  (.seq (.seq (.reg [⟨(some 27), .mv (.k (.c (.d (.int .i64 0)))), none⟩])
  (.block 0 (.loop lp_sgn_0)))
  (.seq (.reg [⟨(some 43), .mv (.t 11), none⟩,
    ⟨(some 6), .mv (.t 43), none⟩,
    ⟨(some 7), .mv (.k (.c (.d (.int .i64 0)))), none⟩])
  (.ret))))))),
  [(6, none), (7, none)]⟩
theorem cf_sgn : compFn Tryd.prog { own := [], comp := [], frz := [], nils := [] } Tryd.f78 = some sf_sgn := by kernel_rfl
set_option maxHeartbeats 3200000 in
theorem sgn_f (G : Glob) (hF : G.at 0 = some (.ra (firstK.map wD))) (hG : G.at 1 = some (.ra (constK.map wD))) (seed : List UInt8) (index : Int) (digest : List UInt8) (hd0 : digest.length ≤ 9223372036854775807) : Den Tryd.prog G 78 [.sl (seed.map bD), .int .i64 index, .sl (digest.map bD)] (.tup [.c (.fr 1 ((sigV seed index digest).map fun l => D.sl (l.map bD))), .c (.d (.int .i64 (sigE seed index digest)))]) := by
  refine den_walk Tryd.func78 cf_sgn rfl rfl ?_
  have hk := ochk_c G seed index
  have hd := dgs_c G digest hd0
  by_cases h : chkE seed index = 0
  · obtain ⟨k1, k2, k3⟩ := chkE_ok h
    rw [h] at hk
    by_cases hn : digest.length = 16
    · rw [(sigE_ok h hn).1, (sigE_ok h hn).2]
      rw [(dig_ok hn).1, (dig_ok hn).2] at hd
      obtain ⟨i, rfl⟩ := Int.eq_ofNat_of_zero_le k2
      have e1 : ((i : Int).toNat) = i := rfl
      rw [e1]
      simp only [sf_sgn, putAll, wx, wy, wz, stV, seval, IntWalk.iteOmega, IntWalk.toNatUp, reduceCtorEq]
      refine st_call (hk) rfl (.inl rfl) ?_
      simp only [wx, wy, wz, stV, seval, IntWalk.iteOmega, IntWalk.toNatUp, reduceCtorEq]
      refine st_call (hd) rfl (.inl rfl) ?_
      simp only [wx, wy, wz, stV, seval, IntWalk.iteOmega, IntWalk.toNatUp, reduceCtorEq]
      refine loop_st (sgSt seed i digest) (fun j => 35 - j) (fun j => j ≤ 35) 0 (Nat.zero_le _) ?_ ?_
      · refine ent_l (fun i => i) ?_ ?_ rfl rfl <;> simp only [wx, wex, wez, stV, seval, IntWalk.iteOmega, IntWalk.toNatUp, reduceCtorEq, sgV, sgH]
      · intro j hj
        by_cases hlt : j < 35
        · have hs := sec0_c G hF hG seed i j k1 (by omega) hlt
          have hdl : (digN digest).length = 35 := by rw [digN_len, hn]
          have g1 := getI (l := digN digest) (j := j) (by omega)
          have hdd : (digN digest).getD j 0 = digA digest j := rfl
          have hle := digA_le hn j
          rw [hdd] at g1
          have hc := chain_c G hF hG (secM seed i j) (by rw [secM_len]; decide) (digA digest j : Int)
          have hm : (min ((digA digest j : Nat) : Int) 65536).toNat = digA digest j := by omega
          rw [hm] at hc
          have hsn := sigN_succ seed i digest j
          have hll := sigN_len seed i digest (j + 1)
          rcases j with _ | j
          · have h0 : sigN seed i digest 0 = [] := rfl
            rw [h0] at hsn
            have hs2 : [D.sl ((chainK (secM seed i 0) (digA digest 0)).map bD)] = (sigN seed i digest 1).map fun l => D.sl (l.map bD) := by rw [← hsn]; rfl
            simp only [lp_sgn_0, sgSt, sgV, sgH, wx, wy, wz, stV, seval, IntWalk.iteOmega, IntWalk.toNatUp, reduceCtorEq, hdl, g1]
            refine st_call (hs) rfl (.inl rfl) ?_
            simp only [hdl, g1, wx, wy, wz, stV, seval, IntWalk.iteOmega, IntWalk.toNatUp, reduceCtorEq]
            refine st_call (hc) rfl (.inl rfl) ?_
            simp only [srcV, wx, wy, wz, stV, seval, IntWalk.iteOmega, IntWalk.toNatUp, reduceCtorEq]
            refine lop_next (0 + 1) (by omega) (by omega) (ent_l (fun _ => 328) ?_ ?_ rfl rfl) <;> simp only [wx, wex, wez, stV, seval, IntWalk.iteOmega, IntWalk.toNatUp, reduceCtorEq, sgV, sgH, hll, hs2]
          · have hs2 : ((sigN seed i digest (j + 1)).map fun l => D.sl (l.map bD)) ++ [D.sl ((chainK (secM seed i (j + 1)) (digA digest (j + 1))).map bD)] = (sigN seed i digest (j + 1 + 1)).map fun l => D.sl (l.map bD) := by rw [← hsn, List.map_append]; rfl
            have hlj := sigN_len seed i digest (j + 1)
            simp only [lp_sgn_0, sgSt, sgV, sgH, wx, wy, wz, stV, seval, IntWalk.iteOmega, IntWalk.toNatUp, reduceCtorEq, hdl, g1]
            refine st_call (hs) rfl (.inl rfl) ?_
            simp only [hdl, g1, wx, wy, wz, stV, seval, IntWalk.iteOmega, IntWalk.toNatUp, reduceCtorEq]
            refine st_call (hc) rfl (.inl rfl) ?_
            simp only [srcV, hs2, hlj, wx, wy, wz, stV, seval, IntWalk.iteOmega, IntWalk.toNatUp, reduceCtorEq]
            refine lop_next (j + 1 + 1) (by omega) (by omega) (ent_l (fun _ => 328) ?_ ?_ rfl rfl) <;> simp only [wx, wex, wez, stV, seval, IntWalk.iteOmega, IntWalk.toNatUp, reduceCtorEq, sgV, sgH, hll]
        · obtain rfl : j = 35 := by omega
          have hll := sigN_len seed i digest 35
          have hsm : sigN seed i digest 35 = sigM seed i digest := rfl
          rw [hsm] at hll
          simp only [lp_sgn_0, sgSt, sgV, sgH, wx, wy, wz, stV, seval, IntWalk.iteOmega, IntWalk.toNatUp, reduceCtorEq]
          exact ret_f2 (by simp only [wx, wy, wz, stV, seval, IntWalk.iteOmega, IntWalk.toNatUp, reduceCtorEq, hll, hsm]) (by simp only [wx, wy, wz, stV, seval, IntWalk.iteOmega, IntWalk.toNatUp, reduceCtorEq])
    · have hE : sigE seed index digest = 3 := by unfold sigE; rw [if_pos h]; exact (dig_no hn).1
      have hV : sigV seed index digest = [] := if_neg (by rw [hE]; decide)
      rw [hE, hV]
      rw [(dig_no hn).1, (dig_no hn).2] at hd
      simp only [sf_sgn, putAll, wx, wy, wz, stV, seval, IntWalk.iteOmega, IntWalk.toNatUp, reduceCtorEq]
      refine st_call (hk) rfl (.inl rfl) ?_
      simp only [wx, wy, wz, stV, seval, IntWalk.iteOmega, IntWalk.toNatUp, reduceCtorEq]
      refine st_call (hd) rfl (.inl rfl) ?_
      simp only [wx, wy, wz, stV, seval, IntWalk.iteOmega, IntWalk.toNatUp, reduceCtorEq]
      exact ret_f2 (by simp only [wx, wy, wz, stV, seval, IntWalk.iteOmega, IntWalk.toNatUp, reduceCtorEq]) (by simp only [wx, wy, wz, stV, seval, IntWalk.iteOmega, IntWalk.toNatUp, reduceCtorEq])
  · have hE : sigE seed index digest = chkE seed index := if_neg h
    have hV : sigV seed index digest = [] := if_neg (by rw [hE]; exact h)
    rw [hE, hV]
    generalize chkE seed index = e at *
    simp only [sf_sgn, putAll, wx, wy, wz, stV, seval, IntWalk.iteOmega, IntWalk.toNatUp, reduceCtorEq]
    refine st_call (hk) rfl (.inl rfl) ?_
    simp only [wx, wy, wz, stV, seval, IntWalk.iteOmega, IntWalk.toNatUp, reduceCtorEq]
    exact ret_f2 (by simp only [wx, wy, wz, stV, seval, IntWalk.iteOmega, IntWalk.toNatUp, reduceCtorEq]) (by simp only [wx, wy, wz, stV, seval, IntWalk.iteOmega, IntWalk.toNatUp, reduceCtorEq])
def lp_rsgn_0 : SCode :=
  .seq (.seq (.reg [⟨(some 29), .mv (.t 12), none⟩,
    ⟨(some 30), .bin .lss (.t 29) (.k (.c (.d (.int .i64 35)))), none⟩])
  (.cond (.t 30) (.skip)
   (.exit 0)))
  (.seq (.block 1 (.seq (.reg [⟨(some 34), .mv (.t 0), none⟩,
     ⟨(some 35), .mv (.t 1), none⟩,
     ⟨(some 36), .mv (.t 12), none⟩,
     ⟨(some 37), .call 85 [(.t 34), (.t 35), (.t 36)] none, none⟩,
     ⟨(some 33), .mv (.t 37), none⟩,
     ⟨(some 38), .extract (.t 33) 0, none⟩,
     ⟨(some 39), .extract (.t 33) 1, none⟩,
     ⟨(some 13), .mv (.t 38), none⟩,
     ⟨(some 14), .mv (.t 39), none⟩])
   (.reg [⟨(some 40), .mv (.t 11), none⟩,
     ⟨(some 41), .mv (.t 13), none⟩,
     ⟨(some 42), .mv (.t 9), none⟩,
     ⟨(some 43), .mv (.t 12), none⟩,
     ⟨(some 44), .idxSl 1 (.t 42) (.t 43), none⟩,
     ⟨(some 45), .load .sc (.t 44), none⟩,
     ⟨(some 46), .call 86 [(.t 41), (.t 45)] none, none⟩,
     ⟨(some 47), .bldSl false 1 1 (.sl []) [(0, (.t 46))], none⟩,
     ⟨(some 48), .app false 1 24 (.t 40) (.t 47), none⟩,
     ⟨(some 11), .mv (.t 48), none⟩])))
  (.reg [⟨(some 31), .mv (.t 12), none⟩,
    ⟨(some 32), .bin .add (.t 31) (.k (.c (.d (.int .i64 1)))), none⟩,
    ⟨(some 12), .mv (.t 32), none⟩]))
def sf_rsgn : SFn := ⟨3, 50,
  .seq (.reg [⟨(some 6), .mv (.k (.c .nil)), none⟩,
    ⟨(some 7), .mv (.k (.c (.d (.int .i64 0)))), none⟩])
  (.seq (.seq (.reg [⟨(some 15), .mv (.t 0), none⟩,
    ⟨(some 16), .mv (.t 1), none⟩,
    ⟨(some 17), .call 83 [(.t 15), (.t 16)] none, none⟩,
    ⟨(some 8), .mv (.t 17), none⟩])
  (.seq (.reg [⟨(some 18), .mv (.t 8), none⟩,
    ⟨(some 19), .bin .neq (.t 18) (.k (.c (.d (.int .i64 0)))), none⟩])
  (.cond (.t 19) (.seq (.reg [⟨(some 20), .mv (.t 8), none⟩,
     ⟨(some 6), .mv (.k (.c .nil)), none⟩,
     ⟨(some 7), .mv (.t 20), none⟩])
   (.ret))
   (.skip))))
  (.seq (.reg [⟨(some 22), .mv (.t 2), none⟩,
    ⟨(some 23), .call 84 [(.t 22)] none, none⟩,
    ⟨(some 21), .mv (.t 23), none⟩,
    ⟨(some 24), .extract (.t 21) 0, none⟩,
    ⟨(some 25), .extract (.t 21) 1, none⟩,
    ⟨(some 9), .mv (.t 24), none⟩,
    ⟨(some 10), .mv (.t 25), none⟩])
  (.seq (.seq (.reg [⟨(some 26), .mv (.t 10), none⟩,
    ⟨(some 27), .bin .neq (.t 26) (.k (.c (.d (.int .i64 0)))), none⟩])
  (.cond (.t 27) (.seq (.reg [⟨(some 28), .mv (.t 10), none⟩,
     ⟨(some 6), .mv (.k (.c .nil)), none⟩,
     ⟨(some 7), .mv (.t 28), none⟩])
   (.ret))
   (.skip)))
  (.seq (.reg [⟨(some 11), .mv (.k (.c .nil)), none⟩])
  (.seq (.seq (.reg [⟨(some 12), .mv (.k (.c (.d (.int .i64 0)))), none⟩])
  (.block 0 (.loop lp_rsgn_0)))
  (.seq (.reg [⟨(some 49), .mv (.t 11), none⟩,
    ⟨(some 6), .mv (.t 49), none⟩,
    ⟨(some 7), .mv (.k (.c (.d (.int .i64 0)))), none⟩])
  (.ret))))))),
  [(6, none), (7, none)]⟩
theorem cf_rsgn : compFn Tryd.prog { own := [], comp := [], frz := [], nils := [] } Tryd.f49 = some sf_rsgn := by kernel_rfl
set_option maxHeartbeats 3200000 in
theorem rsgn_f (G : Glob) (seed : List UInt8) (index : Int) (digest : List UInt8) (hd0 : digest.length ≤ 9223372036854775807) : Den Tryd.prog G 49 [.sl (seed.map bD), .int .i64 index, .sl (digest.map bD)] (.tup [.c (.fr 1 ((sigV seed index digest).map fun l => D.sl (l.map bD))), .c (.d (.int .i64 (sigE seed index digest)))]) := by
  refine den_walk Tryd.func49 cf_rsgn rfl rfl ?_
  have hk := rochk_c G seed index
  have hd := rdgs_c G digest hd0
  by_cases h : chkE seed index = 0
  · obtain ⟨k1, k2, k3⟩ := chkE_ok h
    rw [h] at hk
    by_cases hn : digest.length = 16
    · rw [(sigE_ok h hn).1, (sigE_ok h hn).2]
      rw [(dig_ok hn).1, (dig_ok hn).2] at hd
      obtain ⟨i, rfl⟩ := Int.eq_ofNat_of_zero_le k2
      have e1 : ((i : Int).toNat) = i := rfl
      rw [e1]
      simp only [sf_rsgn, putAll, wx, wy, wz, stV, seval, IntWalk.iteOmega, IntWalk.toNatUp, reduceCtorEq]
      refine st_call (hk) rfl (.inl rfl) ?_
      simp only [wx, wy, wz, stV, seval, IntWalk.iteOmega, IntWalk.toNatUp, reduceCtorEq]
      refine st_call (hd) rfl (.inl rfl) ?_
      simp only [wx, wy, wz, stV, seval, IntWalk.iteOmega, IntWalk.toNatUp, reduceCtorEq]
      refine loop_st (rsgSt seed i digest) (fun j => 35 - j) (fun j => j ≤ 35) 0 (Nat.zero_le _) ?_ ?_
      · refine ent_l (fun i => i) ?_ ?_ rfl rfl <;> simp only [wx, wex, wez, stV, seval, IntWalk.iteOmega, IntWalk.toNatUp, reduceCtorEq, sgV, sgH]
      · intro j hj
        by_cases hlt : j < 35
        · have hs := rsec_c G seed (i : Int) (j : Int)
          rw [(secV_ok k1 (by omega) hlt).1, (secV_ok k1 (by omega) hlt).2] at hs
          have hdl : (digN digest).length = 35 := by rw [digN_len, hn]
          have g1 := getI (l := digN digest) (j := j) (by omega)
          have hdd : (digN digest).getD j 0 = digA digest j := rfl
          have hle := digA_le hn j
          rw [hdd] at g1
          have hc := rchain_c G (secM seed i j) (by rw [secM_len]; decide) (digA digest j : Int)
          have hm : (min ((digA digest j : Nat) : Int) 65536).toNat = digA digest j := by omega
          rw [hm] at hc
          have hsn := sigN_succ seed i digest j
          have hll := sigN_len seed i digest (j + 1)
          rcases j with _ | j
          · have h0 : sigN seed i digest 0 = [] := rfl
            rw [h0] at hsn
            have hs2 : [D.sl ((chainK (secM seed i 0) (digA digest 0)).map bD)] = (sigN seed i digest 1).map fun l => D.sl (l.map bD) := by rw [← hsn]; rfl
            simp only [lp_rsgn_0, rsgSt, sgV, sgH, wx, wy, wz, stV, seval, IntWalk.iteOmega, IntWalk.toNatUp, reduceCtorEq, hdl, g1]
            refine st_call (hs) rfl (.inl rfl) ?_
            simp only [hdl, g1, wx, wy, wz, stV, seval, IntWalk.iteOmega, IntWalk.toNatUp, reduceCtorEq]
            refine st_call (hc) rfl (.inl rfl) ?_
            simp only [srcV, wx, wy, wz, stV, seval, IntWalk.iteOmega, IntWalk.toNatUp, reduceCtorEq]
            refine lop_next (0 + 1) (by omega) (by omega) (ent_l (fun _ => 384) ?_ ?_ rfl rfl) <;> simp only [wx, wex, wez, stV, seval, IntWalk.iteOmega, IntWalk.toNatUp, reduceCtorEq, sgV, sgH, hll, hs2]
          · have hs2 : ((sigN seed i digest (j + 1)).map fun l => D.sl (l.map bD)) ++ [D.sl ((chainK (secM seed i (j + 1)) (digA digest (j + 1))).map bD)] = (sigN seed i digest (j + 1 + 1)).map fun l => D.sl (l.map bD) := by rw [← hsn, List.map_append]; rfl
            have hlj := sigN_len seed i digest (j + 1)
            simp only [lp_rsgn_0, rsgSt, sgV, sgH, wx, wy, wz, stV, seval, IntWalk.iteOmega, IntWalk.toNatUp, reduceCtorEq, hdl, g1]
            refine st_call (hs) rfl (.inl rfl) ?_
            simp only [hdl, g1, wx, wy, wz, stV, seval, IntWalk.iteOmega, IntWalk.toNatUp, reduceCtorEq]
            refine st_call (hc) rfl (.inl rfl) ?_
            simp only [srcV, hs2, hlj, wx, wy, wz, stV, seval, IntWalk.iteOmega, IntWalk.toNatUp, reduceCtorEq]
            refine lop_next (j + 1 + 1) (by omega) (by omega) (ent_l (fun _ => 384) ?_ ?_ rfl rfl) <;> simp only [wx, wex, wez, stV, seval, IntWalk.iteOmega, IntWalk.toNatUp, reduceCtorEq, sgV, sgH, hll]
        · obtain rfl : j = 35 := by omega
          have hll := sigN_len seed i digest 35
          have hsm : sigN seed i digest 35 = sigM seed i digest := rfl
          rw [hsm] at hll
          simp only [lp_rsgn_0, rsgSt, sgV, sgH, wx, wy, wz, stV, seval, IntWalk.iteOmega, IntWalk.toNatUp, reduceCtorEq]
          exact ret_f2 (by simp only [wx, wy, wz, stV, seval, IntWalk.iteOmega, IntWalk.toNatUp, reduceCtorEq, hll, hsm]) (by simp only [wx, wy, wz, stV, seval, IntWalk.iteOmega, IntWalk.toNatUp, reduceCtorEq])
    · have hE : sigE seed index digest = 3 := by unfold sigE; rw [if_pos h]; exact (dig_no hn).1
      have hV : sigV seed index digest = [] := if_neg (by rw [hE]; decide)
      rw [hE, hV]
      rw [(dig_no hn).1, (dig_no hn).2] at hd
      simp only [sf_rsgn, putAll, wx, wy, wz, stV, seval, IntWalk.iteOmega, IntWalk.toNatUp, reduceCtorEq]
      refine st_call (hk) rfl (.inl rfl) ?_
      simp only [wx, wy, wz, stV, seval, IntWalk.iteOmega, IntWalk.toNatUp, reduceCtorEq]
      refine st_call (hd) rfl (.inl rfl) ?_
      simp only [wx, wy, wz, stV, seval, IntWalk.iteOmega, IntWalk.toNatUp, reduceCtorEq]
      exact ret_f2 (by simp only [wx, wy, wz, stV, seval, IntWalk.iteOmega, IntWalk.toNatUp, reduceCtorEq]) (by simp only [wx, wy, wz, stV, seval, IntWalk.iteOmega, IntWalk.toNatUp, reduceCtorEq])
  · have hE : sigE seed index digest = chkE seed index := if_neg h
    have hV : sigV seed index digest = [] := if_neg (by rw [hE]; exact h)
    rw [hE, hV]
    generalize chkE seed index = e at *
    simp only [sf_rsgn, putAll, wx, wy, wz, stV, seval, IntWalk.iteOmega, IntWalk.toNatUp, reduceCtorEq]
    refine st_call (hk) rfl (.inl rfl) ?_
    simp only [wx, wy, wz, stV, seval, IntWalk.iteOmega, IntWalk.toNatUp, reduceCtorEq]
    exact ret_f2 (by simp only [wx, wy, wz, stV, seval, IntWalk.iteOmega, IntWalk.toNatUp, reduceCtorEq]) (by simp only [wx, wy, wz, stV, seval, IntWalk.iteOmega, IntWalk.toNatUp, reduceCtorEq])
theorem den_roL8 {P : Program} {G : Glob} {F : FuncId} {args : List D} {l : List (List UInt8)} {y : D} (h : Den P G F args (.tup [.c (.fr 1 (l.map fun l => D.sl (l.map bD))), .c (.d y)])) : Den P G F args (.tup [.c (.d (.sl (l.map fun l => D.sl (l.map bD)))), .c (.d y)]) := den_ro2 h
theorem sgn_c (G : Glob) (hF : G.at 0 = some (.ra (firstK.map wD))) (hG : G.at 1 = some (.ra (constK.map wD))) (seed : List UInt8) (index : Int) (digest : List UInt8) (hd0 : digest.length ≤ 9223372036854775807) : Den Tryd.prog G 78 [.sl (seed.map bD), .int .i64 index, .sl (digest.map bD)] (.tup [.c (.d (.sl ((sigV seed index digest).map fun l => D.sl (l.map bD)))), .c (.d (.int .i64 (sigE seed index digest)))]) := den_roL8 (sgn_f G hF hG seed index digest hd0)
theorem rsgn_c (G : Glob) (seed : List UInt8) (index : Int) (digest : List UInt8) (hd0 : digest.length ≤ 9223372036854775807) : Den Tryd.prog G 49 [.sl (seed.map bD), .int .i64 index, .sl (digest.map bD)] (.tup [.c (.d (.sl ((sigV seed index digest).map fun l => D.sl (l.map bD)))), .c (.d (.int .i64 (sigE seed index digest)))]) := den_roL8 (rsgn_f G seed index digest hd0)
/-! ### What a signature gives back -/
def formB (s : List (List UInt8)) : Bool := decide (s.length = 35) && s.all fun x => decide (x.length = 16)
theorem formB_ok {s : List (List UInt8)} (h : formB s = true) : s.length = 35 ∧ ∀ x ∈ s, x.length = 16 := by
  unfold formB at h
  simp only [Bool.and_eq_true, decide_eq_true_eq, List.all_eq_true] at h
  exact h
theorem formB_1 {s : List (List UInt8)} (h : s.length ≠ 35) : formB s = false := by
  cases hf : formB s
  · rfl
  · exact absurd (formB_ok hf).1 h
theorem formB_2 {s : List (List UInt8)} {j : Nat} (hj : j < s.length) (h : ¬ (s.getD j []).length = 16) : formB s = false := by
  cases hf : formB s
  · rfl
  · exact absurd ((formB_ok hf).2 _ (getLs_mem hj)) h
theorem formB_3 {s : List (List UInt8)} (h1 : s.length = 35) (h : ∀ j, j < s.length → (s.getD j []).length = 16) : formB s = true := by
  unfold formB
  rw [decide_eq_true h1, Bool.true_and, List.all_eq_true]
  intro x hx
  obtain ⟨j, hj, rfl⟩ := List.getElem_of_mem hx
  have := h j hj
  rw [List.getD_eq_getElem?_getD, List.getElem?_eq_getElem hj] at this
  exact decide_eq_true this
def recE (digest : List UInt8) (s : List (List UInt8)) : Int := if dgtE digest = 0 then (if formB s = true then 0 else 3) else dgtE digest
def recV (digest : List UInt8) (s : List (List UInt8)) : List UInt8 := if recE digest s = 0 then recM digest s else []
def foSt (s : List (List UInt8)) (j : Nat) : St := ⟨ofL [(8, .w (.c (.d (sls s)))), (9, .w (.c (.d (.int .i64 35)))), (10, .w (.c (.d (.int .i64 (j : Int)))))], hL [], uL []⟩
def lp_frm_0 : SCode :=
  .seq (.reg [⟨(some 11), .bin .lss (.t 10) (.t 9), none⟩])
  (.seq (.cond (.t 11) (.skip)
   (.exit 0))
  (.seq (.block 1 (.seq (.reg [⟨(some 12), .idxSl 1 (.t 8) (.t 10), none⟩,
     ⟨(some 13), .load .sc (.t 12), none⟩,
     ⟨(some 4), .mv (.t 13), none⟩])
   (.seq (.reg [⟨(some 14), .mv (.t 4), none⟩,
     ⟨(some 15), .len (.t 14), none⟩,
     ⟨(some 16), .bin .neq (.t 15) (.k (.c (.d (.int .i64 16)))), none⟩])
   (.cond (.t 16) (.seq (.reg [⟨(some 2), .mv (.k (.c (.d (.bool false)))), none⟩])
    (.ret))
    (.skip)))))
  (.reg [⟨(some 17), .bin .add (.t 10) (.k (.c (.d (.int .i64 1)))), none⟩,
    ⟨(some 10), .mv (.t 17), none⟩])))
def sf_frm : SFn := ⟨1, 18,
  .seq (.reg [⟨(some 2), .mv (.k (.c (.d (.bool false)))), none⟩])
  (.seq (.seq (.reg [⟨(some 5), .mv (.t 0), none⟩,
    ⟨(some 6), .len (.t 5), none⟩,
    ⟨(some 7), .bin .neq (.t 6) (.k (.c (.d (.int .i64 35)))), none⟩])
  (.cond (.t 7) (.seq (.reg [⟨(some 2), .mv (.k (.c (.d (.bool false)))), none⟩])
   (.ret))
   (.skip)))
  (.seq (.seq (.reg [⟨(some 8), .mv (.t 0), none⟩,
    ⟨(some 9), .len (.t 8), none⟩,
    ⟨(some 10), .mv (.k (.c (.d (.int .i64 0)))), none⟩])
  (.block 0 (.loop lp_frm_0)))
  (.seq (.reg [⟨(some 2), .mv (.k (.c (.d (.bool true)))), none⟩])
  (.ret)))),
  [(2, none)]⟩
theorem cf_frm : compFn Tryd.prog { own := [], comp := [], frz := [], nils := [] } Tryd.f93 = some sf_frm := by kernel_rfl
set_option maxHeartbeats 1600000 in
theorem frm_c (G : Glob) (s : List (List UInt8)) (hl : s.length ≤ 9223372036854775807) (hb : ∀ x ∈ s, x.length ≤ 9223372036854775807) : Den Tryd.prog G 93 [sls s] (.w (.c (.d (.bool (formB s))))) := by
  refine den_walk Tryd.func93 cf_frm rfl rfl ?_
  by_cases h : s.length = 35
  · simp only [sf_frm, putAll, wx, wy, wz, stV, seval, IntWalk.iteOmega, IntWalk.toNatUp, reduceCtorEq, h]
    refine loop_st (foSt s) (fun j => 35 - j) (fun j => j ≤ 35 ∧ ∀ k, k < j → (s.getD k []).length = 16) 0 ⟨Nat.zero_le _, fun j hj => by omega⟩ ?_ ?_
    · refine ent_l (fun i => i) ?_ ?_ rfl rfl <;> simp only [wx, wex, wez, stV, seval, IntWalk.iteOmega, IntWalk.toNatUp, reduceCtorEq]
    · rintro j ⟨hj, hok⟩
      by_cases hlt : j < 35
      · have hlt' : j < s.length := by omega
        have g1 := getLs hlt'
        have hx := hb _ (getLs_mem hlt')
        by_cases hn : (s.getD j []).length = 16
        · simp only [lp_frm_0, foSt, wx, wy, wz, stV, seval, IntWalk.iteOmega, IntWalk.toNatUp, reduceCtorEq, h, get_map, g1, hn]
          refine lop_next (j + 1) (by omega) ⟨by omega, fun k hk => ?_⟩ (ent_l (fun i => i) ?_ ?_ rfl rfl)
          · rcases Nat.lt_or_ge k j with h | h
            · exact hok k h
            · obtain rfl : k = j := by omega
              exact hn
          all_goals simp only [wx, wex, wez, stV, seval, IntWalk.iteOmega, IntWalk.toNatUp, reduceCtorEq]
        · rw [formB_2 hlt' hn]
          simp only [lp_frm_0, foSt, wx, wy, wz, stV, seval, IntWalk.iteOmega, IntWalk.toNatUp, reduceCtorEq, h, get_map, g1]
          exact ret_d1 (by simp only [wx, wy, wz, stV, seval, IntWalk.iteOmega, IntWalk.toNatUp, reduceCtorEq])
      · rw [formB_3 h (fun k hk => hok k (by omega))]
        simp only [lp_frm_0, foSt, wx, wy, wz, stV, seval, IntWalk.iteOmega, IntWalk.toNatUp, reduceCtorEq]
        exact ret_d1 (by simp only [wx, wy, wz, stV, seval, IntWalk.iteOmega, IntWalk.toNatUp, reduceCtorEq])
  · rw [formB_1 h]
    simp only [sf_frm, putAll, wx, wy, wz, stV, seval, IntWalk.iteOmega, IntWalk.toNatUp, reduceCtorEq]
    exact ret_d1 (by simp only [wx, wy, wz, stV, seval, IntWalk.iteOmega, IntWalk.toNatUp, reduceCtorEq])
def recF (digest : List UInt8) (s : List (List UInt8)) (c : Nat) : List UInt8 := chainK (s.getD c []) (15 - digA digest c)
def rcSt (digest : List UInt8) (s : List (List UInt8)) (j : Nat) : St := ⟨ofL [(1, .w (.c (.d (sls s)))), (6, .w (.c (.d (.sl ((digN digest).map iD))))), (8, ebV j), (21, .w (.c (.d (.int .i64 (j : Int)))))], hL (ebH (recF digest s) j), uL [1]⟩
def lp_rec_0 : SCode :=
  .seq (.reg [⟨(some 22), .bin .lss (.t 21) (.k (.c (.d (.int .i64 35)))), none⟩])
  (.seq (.cond (.t 22) (.skip)
   (.exit 0))
  (.seq (.block 1 (.seq (.reg [⟨(some 23), .mv (.t 21), none⟩,
     ⟨(some 9), .mv (.t 23), none⟩])
   (.reg [⟨(some 24), .mv (.t 8), none⟩,
     ⟨(some 25), .mv (.t 1), none⟩,
     ⟨(some 26), .mv (.t 9), none⟩,
     ⟨(some 27), .idxSl 1 (.t 25) (.t 26), none⟩,
     ⟨(some 28), .load .sc (.t 27), none⟩,
     ⟨(some 29), .mv (.t 6), none⟩,
     ⟨(some 30), .mv (.t 9), none⟩,
     ⟨(some 31), .idxSl 1 (.t 29) (.t 30), none⟩,
     ⟨(some 32), .load .sc (.t 31), none⟩,
     ⟨(some 33), .bin .sub (.k (.c (.d (.int .i64 15)))) (.t 32), none⟩,
     ⟨(some 34), .call 94 [(.t 28), (.t 33)] none, none⟩,
     ⟨(some 35), .app false 1 1 (.t 24) (.t 34), none⟩,
     ⟨(some 8), .mv (.t 35), none⟩])))
  (.reg [⟨(some 36), .bin .add (.t 21) (.k (.c (.d (.int .i64 1)))), none⟩,
    ⟨(some 21), .mv (.t 36), none⟩])))
def sf_rec : SFn := ⟨2, 39,
  .seq (.reg [⟨(some 4), .mv (.k (.c .nil)), none⟩,
    ⟨(some 5), .mv (.k (.c (.d (.int .i64 0)))), none⟩])
  (.seq (.reg [⟨(some 11), .mv (.t 0), none⟩,
    ⟨(some 12), .call 92 [(.t 11)] none, none⟩,
    ⟨(some 10), .mv (.t 12), none⟩,
    ⟨(some 13), .extract (.t 10) 0, none⟩,
    ⟨(some 14), .extract (.t 10) 1, none⟩,
    ⟨(some 6), .mv (.t 13), none⟩,
    ⟨(some 7), .mv (.t 14), none⟩])
  (.seq (.seq (.reg [⟨(some 15), .mv (.t 7), none⟩,
    ⟨(some 16), .bin .neq (.t 15) (.k (.c (.d (.int .i64 0)))), none⟩])
  (.cond (.t 16) (.seq (.reg [⟨(some 17), .mv (.t 7), none⟩,
     ⟨(some 4), .mv (.k (.c .nil)), none⟩,
     ⟨(some 5), .mv (.t 17), none⟩])
   (.ret))
   (.skip)))
  (.seq (.seq (.reg [⟨(some 18), .mv (.t 1), none⟩,
    ⟨(some 19), .call 93 [(.t 18)] none, none⟩,
    ⟨(some 20), .un .not (.t 19), none⟩])
  (.cond (.t 20) (.seq (.reg [⟨(some 4), .mv (.k (.c .nil)), none⟩,
     ⟨(some 5), .mv (.k (.c (.d (.int .i64 3)))), none⟩])
   (.ret))
   (.skip)))
  (.seq (.reg [⟨(some 8), .mv (.k (.c .nil)), none⟩])
  (.seq (.seq (.reg [⟨(some 21), .mv (.k (.c (.d (.int .i64 0)))), none⟩])
  (.block 0 (.loop lp_rec_0)))
  (.seq (.reg [⟨(some 37), .mv (.t 8), none⟩,
    ⟨(some 38), .call 95 [(.t 37)] (some (0, 1)), none⟩,
    ⟨(some 4), .mv (.t 38), none⟩,
    ⟨(some 5), .mv (.k (.c (.d (.int .i64 0)))), none⟩])
  (.ret))))))),
  [(4, none), (5, none)]⟩
theorem cf_rec : compFn Tryd.prog { own := [38], comp := [], frz := [], nils := [] } Tryd.f56 = some sf_rec := by kernel_rfl
set_option maxHeartbeats 3200000 in
theorem rec_f (G : Glob) (hF : G.at 0 = some (.ra (firstK.map wD))) (hG : G.at 1 = some (.ra (constK.map wD))) (digest : List UInt8) (s : List (List UInt8)) (hd0 : digest.length ≤ 9223372036854775807) (hl0 : s.length ≤ 9223372036854775807) (hb : ∀ x ∈ s, x.length ≤ 9223372036854775807) : Den Tryd.prog G 56 [.sl (digest.map bD), sls s] (.tup [.c (.fr 1 ((recV digest s).map bD)), .c (.d (.int .i64 (recE digest s)))]) := by
  refine den_walk Tryd.func56 cf_rec rfl rfl ?_
  have hd := dgs_c G digest hd0
  have hf := frm_c G s hl0 hb
  by_cases hn : digest.length = 16
  · rw [(dig_ok hn).1, (dig_ok hn).2] at hd
    cases hfo : formB s
    · have hE : recE digest s = 3 := by unfold recE; rw [if_pos (dig_ok hn).1, hfo]; rfl
      have hV : recV digest s = [] := if_neg (by rw [hE]; decide)
      rw [hE, hV]
      rw [hfo] at hf
      simp only [sf_rec, putAll, wx, wy, wz, stV, seval, IntWalk.iteOmega, IntWalk.toNatUp, reduceCtorEq]
      refine st_call (hd) rfl (.inl rfl) ?_
      simp only [wx, wy, wz, stV, seval, IntWalk.iteOmega, IntWalk.toNatUp, reduceCtorEq]
      refine st_call (hf) rfl (.inl rfl) ?_
      simp only [wx, wy, wz, stV, seval, IntWalk.iteOmega, IntWalk.toNatUp, reduceCtorEq]
      exact ret_f2 (by simp only [wx, wy, wz, stV, seval, IntWalk.iteOmega, IntWalk.toNatUp, reduceCtorEq]) (by simp only [wx, wy, wz, stV, seval, IntWalk.iteOmega, IntWalk.toNatUp, reduceCtorEq])
    · have hE : recE digest s = 0 := by unfold recE; rw [if_pos (dig_ok hn).1, hfo]; rfl
      have hV : recV digest s = recM digest s := if_pos hE
      rw [hE, hV]
      rw [hfo] at hf
      obtain ⟨q1, q2⟩ := formB_ok hfo
      have q3 : ∀ j, j < 35 → (s.getD j []).length = 16 := fun j hj => q2 _ (getLs_mem (by omega))
      have q4 : ∀ j, j < 35 → (recF digest s j).length = 16 := fun j hj => chain16 (q3 j hj) _
      simp only [sf_rec, putAll, wx, wy, wz, stV, seval, IntWalk.iteOmega, IntWalk.toNatUp, reduceCtorEq]
      refine st_call (hd) rfl (.inl rfl) ?_
      simp only [wx, wy, wz, stV, seval, IntWalk.iteOmega, IntWalk.toNatUp, reduceCtorEq]
      refine st_call (hf) rfl (.inl rfl) ?_
      simp only [wx, wy, wz, stV, seval, IntWalk.iteOmega, IntWalk.toNatUp, reduceCtorEq]
      refine loop_st (rcSt digest s) (fun j => 35 - j) (fun j => j ≤ 35) 0 (Nat.zero_le _) ?_ ?_
      · refine ent_l (fun i => i) ?_ ?_ rfl rfl <;> simp only [wx, wex, wez, stV, seval, IntWalk.iteOmega, IntWalk.toNatUp, reduceCtorEq, ebV, ebH]
      · intro j hj
        by_cases hlt : j < 35
        · have g0 := getLs (l := s) (j := j) (by omega)
          have hdl : (digN digest).length = 35 := by rw [digN_len, hn]
          have g1 := getI (l := digN digest) (j := j) (by omega)
          have hdd : (digN digest).getD j 0 = digA digest j := rfl
          have hle := digA_le hn j
          rw [hdd] at g1
          have hc := chain_c G hF hG (s.getD j []) (by rw [q3 j hlt]; decide) (15 - (digA digest j : Int))
          have hm : (min (15 - ((digA digest j : Nat) : Int)) 65536).toNat = 15 - digA digest j := by omega
          have hm2 : chainK (s.getD j []) (15 - digA digest j) = recF digest s j := rfl
          rw [hm, hm2] at hc
          have hl := q4 j hlt
          rcases j with _ | j
          · have h0 := ends_1 (recF digest s)
            rw [h0] at hc hl
            simp only [lp_rec_0, rcSt, ebV, ebH, wx, wy, wz, stV, seval, IntWalk.iteOmega, IntWalk.toNatUp, reduceCtorEq, q1, get_map, g0, hdl, g1]
            refine st_call (hc) rfl (.inl rfl) ?_
            simp only [srcV, hl, wx, wy, wz, stV, seval, IntWalk.iteOmega, IntWalk.toNatUp, reduceCtorEq]
            refine lop_next (0 + 1) (by omega) (by omega) (ent_l (fun _ => 280) ?_ ?_ rfl rfl) <;> simp only [wx, wex, wez, stV, seval, IntWalk.iteOmega, IntWalk.toNatUp, reduceCtorEq, ebV, ebH, hl]
          · have h0 := ends_map (recF digest s) (j + 1)
            have hl1 : (endsM (recF digest s) (j + 1)).length = 16 * (j + 1) := ends_len fun i hi => q4 i (by omega)
            have hl2 : (endsM (recF digest s) (j + 1 + 1)).length = 16 * (j + 1 + 1) := ends_len fun i hi => q4 i (by omega)
            simp only [lp_rec_0, rcSt, ebV, ebH, wx, wy, wz, stV, seval, IntWalk.iteOmega, IntWalk.toNatUp, reduceCtorEq, q1, get_map, g0, hdl, g1]
            refine st_call (hc) rfl (.inl rfl) ?_
            simp only [srcV, hl, hl1, hl2, h0, wx, wy, wz, stV, seval, IntWalk.iteOmega, IntWalk.toNatUp, reduceCtorEq]
            refine lop_next (j + 1 + 1) (by omega) (by omega) (ent_l (fun _ => 280) ?_ ?_ rfl rfl) <;> simp only [wx, wex, wez, stV, seval, IntWalk.iteOmega, IntWalk.toNatUp, reduceCtorEq, ebV, ebH, hl2]
        · obtain rfl : j = 35 := by omega
          have hl : (endsM (recF digest s) 35).length = 560 := ends_len q4
          have hh := short_c G hF hG (endsM (recF digest s) 35) (by omega)
          have hm : shortK (endsM (recF digest s) 35) = recM digest s := rfl
          rw [hm] at hh
          have ht : (endsM (recF digest s) 35).take 560 = endsM (recF digest s) 35 := List.take_of_length_le (by omega)
          simp only [lp_rec_0, rcSt, ebV, ebH, wx, wy, wz, stV, seval, IntWalk.iteOmega, IntWalk.toNatUp, reduceCtorEq]
          generalize endsM (recF digest s) 35 = z at *
          refine st_call hh (by simp only [wx, wy, wz, stV, seval, IntWalk.iteOmega, IntWalk.toNatUp, reduceCtorEq, hl, ht]) (.inr (fl_b _ _)) ?_
          simp only [wx, wy, wz, stV, seval, IntWalk.iteOmega, IntWalk.toNatUp, reduceCtorEq]
          exact ret_f2 (by simp only [wx, wy, wz, stV, seval, IntWalk.iteOmega, IntWalk.toNatUp, reduceCtorEq]) (by simp only [wx, wy, wz, stV, seval, IntWalk.iteOmega, IntWalk.toNatUp, reduceCtorEq])
  · have hE : recE digest s = 3 := by unfold recE; rw [(dig_no hn).1]; rfl
    have hV : recV digest s = [] := if_neg (by rw [hE]; decide)
    rw [hE, hV]
    rw [(dig_no hn).1, (dig_no hn).2] at hd
    simp only [sf_rec, putAll, wx, wy, wz, stV, seval, IntWalk.iteOmega, IntWalk.toNatUp, reduceCtorEq]
    refine st_call (hd) rfl (.inl rfl) ?_
    simp only [wx, wy, wz, stV, seval, IntWalk.iteOmega, IntWalk.toNatUp, reduceCtorEq]
    exact ret_f2 (by simp only [wx, wy, wz, stV, seval, IntWalk.iteOmega, IntWalk.toNatUp, reduceCtorEq]) (by simp only [wx, wy, wz, stV, seval, IntWalk.iteOmega, IntWalk.toNatUp, reduceCtorEq])
theorem rec_c (G : Glob) (hF : G.at 0 = some (.ra (firstK.map wD))) (hG : G.at 1 = some (.ra (constK.map wD))) (digest : List UInt8) (s : List (List UInt8)) (hd0 : digest.length ≤ 9223372036854775807) (hl0 : s.length ≤ 9223372036854775807) (hb : ∀ x ∈ s, x.length ≤ 9223372036854775807) : Den Tryd.prog G 56 [.sl (digest.map bD), sls s] (.tup [.c (.d (.sl ((recV digest s).map bD))), .c (.d (.int .i64 (recE digest s)))]) := den_ro2 (rec_f G hF hG digest s hd0 hl0 hb)
def rrcSt (digest : List UInt8) (s : List (List UInt8)) (j : Nat) : St := ⟨ofL [(1, .w (.c (.d (sls s)))), (6, .w (.c (.d (.sl ((digN digest).map iD))))), (8, .w (.c (.own 1 1 0 (16 * j)))), (9, .w (.c (.d (.int .i64 (j : Int)))))], hL [(1, .row 1 ((endsM (recF digest s) j).map bD))], uL [1]⟩
def lp_rrec_0 : SCode :=
  .seq (.seq (.reg [⟨(some 22), .mv (.t 9), none⟩,
    ⟨(some 23), .bin .lss (.t 22) (.k (.c (.d (.int .i64 35)))), none⟩])
  (.cond (.t 23) (.skip)
   (.exit 0)))
  (.seq (.block 1 (.seq (.seq (.reg [⟨(some 26), .mv (.t 1), none⟩,
     ⟨(some 27), .mv (.t 9), none⟩,
     ⟨(some 28), .idxSl 1 (.t 26) (.t 27), none⟩,
     ⟨(some 29), .load .sc (.t 28), none⟩,
     ⟨(some 30), .len (.t 29), none⟩,
     ⟨(some 31), .bin .neq (.t 30) (.k (.c (.d (.int .i64 16)))), none⟩])
   (.cond (.t 31) (.seq (.reg [⟨(some 4), .mv (.k (.c .nil)), none⟩,
      ⟨(some 5), .mv (.k (.c (.d (.int .i64 3)))), none⟩])
    (.ret))
    (.skip)))
   (.reg [⟨(some 32), .mv (.t 8), none⟩,
     ⟨(some 33), .mv (.t 1), none⟩,
     ⟨(some 34), .mv (.t 9), none⟩,
     ⟨(some 35), .idxSl 1 (.t 33) (.t 34), none⟩,
     ⟨(some 36), .load .sc (.t 35), none⟩,
     ⟨(some 37), .mv (.t 6), none⟩,
     ⟨(some 38), .mv (.t 9), none⟩,
     ⟨(some 39), .idxSl 1 (.t 37) (.t 38), none⟩,
     ⟨(some 40), .load .sc (.t 39), none⟩,
     ⟨(some 41), .bin .sub (.k (.c (.d (.int .i64 15)))) (.t 40), none⟩,
     ⟨(some 42), .call 86 [(.t 36), (.t 41)] none, none⟩,
     ⟨(some 43), .app false 1 1 (.t 32) (.t 42), none⟩,
     ⟨(some 8), .mv (.t 43), none⟩])))
  (.reg [⟨(some 24), .mv (.t 9), none⟩,
    ⟨(some 25), .bin .add (.t 24) (.k (.c (.d (.int .i64 1)))), none⟩,
    ⟨(some 9), .mv (.t 25), none⟩]))
def sf_rrec : SFn := ⟨2, 46,
  .seq (.reg [⟨(some 4), .mv (.k (.c .nil)), none⟩,
    ⟨(some 5), .mv (.k (.c (.d (.int .i64 0)))), none⟩])
  (.seq (.reg [⟨(some 11), .mv (.t 0), none⟩,
    ⟨(some 12), .call 84 [(.t 11)] none, none⟩,
    ⟨(some 10), .mv (.t 12), none⟩,
    ⟨(some 13), .extract (.t 10) 0, none⟩,
    ⟨(some 14), .extract (.t 10) 1, none⟩,
    ⟨(some 6), .mv (.t 13), none⟩,
    ⟨(some 7), .mv (.t 14), none⟩])
  (.seq (.seq (.reg [⟨(some 15), .mv (.t 7), none⟩,
    ⟨(some 16), .bin .neq (.t 15) (.k (.c (.d (.int .i64 0)))), none⟩])
  (.cond (.t 16) (.seq (.reg [⟨(some 17), .mv (.t 7), none⟩,
     ⟨(some 4), .mv (.k (.c .nil)), none⟩,
     ⟨(some 5), .mv (.t 17), none⟩])
   (.ret))
   (.skip)))
  (.seq (.seq (.reg [⟨(some 18), .mv (.t 1), none⟩,
    ⟨(some 19), .len (.t 18), none⟩,
    ⟨(some 20), .bin .neq (.t 19) (.k (.c (.d (.int .i64 35)))), none⟩])
  (.cond (.t 20) (.seq (.reg [⟨(some 4), .mv (.k (.c .nil)), none⟩,
     ⟨(some 5), .mv (.k (.c (.d (.int .i64 3)))), none⟩])
   (.ret))
   (.skip)))
  (.seq (.reg [⟨(some 21), .bldSl true 0 1 (.int .u8 0) [], none⟩,
    ⟨(some 8), .mv (.t 21), none⟩])
  (.seq (.seq (.reg [⟨(some 9), .mv (.k (.c (.d (.int .i64 0)))), none⟩])
  (.block 0 (.loop lp_rrec_0)))
  (.seq (.reg [⟨(some 44), .mv (.t 8), none⟩,
    ⟨(some 45), .call 87 [(.t 44)] (some (0, 1)), none⟩,
    ⟨(some 4), .mv (.t 45), none⟩,
    ⟨(some 5), .mv (.k (.c (.d (.int .i64 0)))), none⟩])
  (.ret))))))),
  [(4, none), (5, none)]⟩
theorem cf_rrec : compFn Tryd.prog { own := [21, 45], comp := [], frz := [], nils := [] } Tryd.f58 = some sf_rrec := by kernel_rfl
set_option maxHeartbeats 3200000 in
theorem rrec_f (G : Glob) (digest : List UInt8) (s : List (List UInt8)) (hd0 : digest.length ≤ 9223372036854775807) (hl0 : s.length ≤ 9223372036854775807) (hb : ∀ x ∈ s, x.length ≤ 9223372036854775807) : Den Tryd.prog G 58 [.sl (digest.map bD), sls s] (.tup [.c (.fr 1 ((recV digest s).map bD)), .c (.d (.int .i64 (recE digest s)))]) := by
  refine den_walk Tryd.func58 cf_rrec rfl rfl ?_
  have hd := rdgs_c G digest hd0
  by_cases hn : digest.length = 16
  · rw [(dig_ok hn).1, (dig_ok hn).2] at hd
    by_cases q1 : s.length = 35
    · simp only [sf_rrec, putAll, wx, wy, wz, stV, seval, IntWalk.iteOmega, IntWalk.toNatUp, reduceCtorEq, q1]
      refine st_call (hd) rfl (.inl rfl) ?_
      simp only [q1, wx, wy, wz, stV, seval, IntWalk.iteOmega, IntWalk.toNatUp, reduceCtorEq]
      refine loop_st (rrcSt digest s) (fun j => 35 - j) (fun j => j ≤ 35 ∧ ∀ k, k < j → (s.getD k []).length = 16) 0 ⟨Nat.zero_le _, fun j hj => by omega⟩ ?_ ?_
      · refine ent_l (fun _ => 168) ?_ ?_ rfl rfl <;> simp only [wx, wex, wez, stV, seval, IntWalk.iteOmega, IntWalk.toNatUp, reduceCtorEq, endsM, List.range_zero]
      · rintro j ⟨hj, hok⟩
        have q4 : ∀ k, k < j → (recF digest s k).length = 16 := fun k hk => chain16 (hok k hk) _
        have hl1 : (endsM (recF digest s) j).length = 16 * j := ends_len q4
        by_cases hlt : j < 35
        · have hlt' : j < s.length := by omega
          have g0 := getLs hlt'
          have hx := hb _ (getLs_mem hlt')
          by_cases hsn : (s.getD j []).length = 16
          · have hdl : (digN digest).length = 35 := by rw [digN_len, hn]
            have g1 := getI (l := digN digest) (j := j) (by omega)
            have hdd : (digN digest).getD j 0 = digA digest j := rfl
            have hle := digA_le hn j
            rw [hdd] at g1
            have hc := rchain_c G (s.getD j []) (by rw [hsn]; decide) (15 - (digA digest j : Int))
            have hm : (min (15 - ((digA digest j : Nat) : Int)) 65536).toNat = 15 - digA digest j := by omega
            have hm2 : chainK (s.getD j []) (15 - digA digest j) = recF digest s j := rfl
            rw [hm, hm2] at hc
            have hl : (recF digest s j).length = 16 := chain16 hsn _
            have h0 := ends_map (recF digest s) j
            have hl2 : (endsM (recF digest s) (j + 1)).length = 16 * (j + 1) := ends_len fun k hk => by
              rcases Nat.lt_or_ge k j with h | h
              · exact q4 k h
              · obtain rfl : k = j := by omega
                exact hl
            simp only [lp_rrec_0, rrcSt, wx, wy, wz, stV, seval, IntWalk.iteOmega, IntWalk.toNatUp, reduceCtorEq, q1, get_map, g0, hsn, hdl, g1]
            refine st_call (hc) rfl (.inl rfl) ?_
            simp only [srcV, hl, hl1, hl2, h0, wx, wy, wz, stV, seval, IntWalk.iteOmega, IntWalk.toNatUp, reduceCtorEq]
            refine lop_next (j + 1) (by omega) ⟨by omega, fun k hk => ?_⟩ (ent_l (fun _ => 344) ?_ ?_ rfl rfl)
            · rcases Nat.lt_or_ge k j with h | h
              · exact hok k h
              · obtain rfl : k = j := by omega
                exact hsn
            all_goals simp only [wx, wex, wez, stV, seval, IntWalk.iteOmega, IntWalk.toNatUp, reduceCtorEq, hl2]
          · have hfo := formB_2 hlt' hsn
            have hE : recE digest s = 3 := by unfold recE; rw [if_pos (dig_ok hn).1, hfo]; rfl
            have hV : recV digest s = [] := if_neg (by rw [hE]; decide)
            rw [hE, hV]
            simp only [lp_rrec_0, rrcSt, wx, wy, wz, stV, seval, IntWalk.iteOmega, IntWalk.toNatUp, reduceCtorEq, q1, get_map, g0]
            exact ret_f2 (by simp only [wx, wy, wz, stV, seval, IntWalk.iteOmega, IntWalk.toNatUp, reduceCtorEq]) (by simp only [wx, wy, wz, stV, seval, IntWalk.iteOmega, IntWalk.toNatUp, reduceCtorEq])
        · obtain rfl : j = 35 := by omega
          have hfo : formB s = true := formB_3 q1 (fun k hk => hok k (by omega))
          have hE : recE digest s = 0 := by unfold recE; rw [if_pos (dig_ok hn).1, hfo]; rfl
          have hV : recV digest s = recM digest s := if_pos hE
          rw [hE, hV]
          have hl : (endsM (recF digest s) 35).length = 560 := hl1
          have hh := rshF_f G (endsM (recF digest s) 35) (by omega)
          have hm : shortK (endsM (recF digest s) 35) = recM digest s := rfl
          rw [hm] at hh
          have ht : (endsM (recF digest s) 35).take 560 = endsM (recF digest s) 35 := List.take_of_length_le (by omega)
          simp only [lp_rrec_0, rrcSt, wx, wy, wz, stV, seval, IntWalk.iteOmega, IntWalk.toNatUp, reduceCtorEq]
          generalize endsM (recF digest s) 35 = z at *
          refine st_call hh (by simp only [wx, wy, wz, stV, seval, IntWalk.iteOmega, IntWalk.toNatUp, reduceCtorEq, hl, ht]) (.inr (fl_b _ _)) ?_
          simp only [wx, wy, wz, stV, seval, IntWalk.iteOmega, IntWalk.toNatUp, reduceCtorEq]
          exact ret_f2 (by simp only [wx, wy, wz, stV, seval, IntWalk.iteOmega, IntWalk.toNatUp, reduceCtorEq]) (by simp only [wx, wy, wz, stV, seval, IntWalk.iteOmega, IntWalk.toNatUp, reduceCtorEq])
    · have hfo := formB_1 q1
      have hE : recE digest s = 3 := by unfold recE; rw [if_pos (dig_ok hn).1, hfo]; rfl
      have hV : recV digest s = [] := if_neg (by rw [hE]; decide)
      rw [hE, hV]
      simp only [sf_rrec, putAll, wx, wy, wz, stV, seval, IntWalk.iteOmega, IntWalk.toNatUp, reduceCtorEq]
      refine st_call (hd) rfl (.inl rfl) ?_
      simp only [wx, wy, wz, stV, seval, IntWalk.iteOmega, IntWalk.toNatUp, reduceCtorEq]
      exact ret_f2 (by simp only [wx, wy, wz, stV, seval, IntWalk.iteOmega, IntWalk.toNatUp, reduceCtorEq]) (by simp only [wx, wy, wz, stV, seval, IntWalk.iteOmega, IntWalk.toNatUp, reduceCtorEq])
  · have hE : recE digest s = 3 := by unfold recE; rw [(dig_no hn).1]; rfl
    have hV : recV digest s = [] := if_neg (by rw [hE]; decide)
    rw [hE, hV]
    rw [(dig_no hn).1, (dig_no hn).2] at hd
    simp only [sf_rrec, putAll, wx, wy, wz, stV, seval, IntWalk.iteOmega, IntWalk.toNatUp, reduceCtorEq]
    refine st_call (hd) rfl (.inl rfl) ?_
    simp only [wx, wy, wz, stV, seval, IntWalk.iteOmega, IntWalk.toNatUp, reduceCtorEq]
    exact ret_f2 (by simp only [wx, wy, wz, stV, seval, IntWalk.iteOmega, IntWalk.toNatUp, reduceCtorEq]) (by simp only [wx, wy, wz, stV, seval, IntWalk.iteOmega, IntWalk.toNatUp, reduceCtorEq])
theorem rrec_c (G : Glob) (digest : List UInt8) (s : List (List UInt8)) (hd0 : digest.length ≤ 9223372036854775807) (hl0 : s.length ≤ 9223372036854775807) (hb : ∀ x ∈ s, x.length ≤ 9223372036854775807) : Den Tryd.prog G 58 [.sl (digest.map bD), sls s] (.tup [.c (.d (.sl ((recV digest s).map bD))), .c (.d (.int .i64 (recE digest s)))]) := den_ro2 (rrec_f G digest s hd0 hl0 hb)
end Go.Proofs.YtjgkchmdhicmpaaDoor
set_option linter.unusedVariables false
set_option linter.unusedSimpArgs false
namespace Go.Proofs.YtjgkchmdhicmpaaDoor
open Go.RowKit

theorem sumH (G : Glob) (hF : G.at 0 = some (.ra (firstK.map wD))) (hG : G.at 1 = some (.ra (constK.map wD))) (b : List UInt8) (hb : b.length ≤ 140737488355328) : Den Tryd.prog G 42 [.sl (b.map bD)] (.w (.c (.fr 1 ((sumK b).map bD)))) := sum_c G hF hG b hb
theorem rsumH (G : Glob) (hF : G.at 0 = some (.ra (firstK.map wD))) (hG : G.at 1 = some (.ra (constK.map wD))) (b : List UInt8) (hb : b.length ≤ 140737488355328) : Den Tryd.prog G 61 [.sl (b.map bD)] (.w (.c (.fr 1 ((sumK b).map bD)))) := rsum_c G b hb
def sf_leaf : SFn := ⟨1, 8,
  .seq (.reg [⟨(some 2), .mv (.k (.c .nil)), none⟩])
  (.seq (.reg [⟨(some 3), .bldSl false 1 1 (.int .u8 0) [(0, (.k (.c (.d (.int .u8 0)))))], none⟩,
    ⟨(some 4), .mv (.t 0), none⟩,
    ⟨(some 5), .bldSl false 2 1 (.sl []) [(0, (.t 3)), (1, (.t 4))], none⟩,
    ⟨(some 6), .call 43 [(.t 5)] none, none⟩,
    ⟨(some 7), .call 42 [(.t 6)] (some (0, 1)), none⟩,
    ⟨(some 2), .mv (.t 7), none⟩])
  (.ret)),
  [(2, none)]⟩
theorem cf_leaf : compFn Tryd.prog { own := [7], comp := [], frz := [], nils := [] } Tryd.f103 = some sf_leaf := by kernel_rfl
theorem leaf_f (G : Glob) (hF : G.at 0 = some (.ra (firstK.map wD))) (hG : G.at 1 = some (.ra (constK.map wD))) (b : List UInt8) (hb : b.length ≤ 1000000000) : Den Tryd.prog G 103 [.sl (b.map bD)] (.w (.c (.fr 1 ((leafM b).map bD)))) := by
  refine den_walk Tryd.func103 cf_leaf rfl rfl ?_
  have hj := join_c G [[0], b] (by simp) (by simp; omega)
  have hf : [[0], b].flatten = 0 :: b := by simp
  rw [hf] at hj
  have hs := sumH G hF hG (0 :: b) (by simp; omega)
  have hm : sumK (0 :: b) = leafM b := rfl
  rw [hm] at hs
  simp only [sf_leaf, putAll, wx, wy, wz, stV, seval, IntWalk.iteOmega, IntWalk.toNatUp, reduceCtorEq]
  refine st_call (hj) rfl (.inl rfl) ?_
  simp only [wx, wy, wz, stV, seval, IntWalk.iteOmega, IntWalk.toNatUp, reduceCtorEq]
  refine st_call (hs) rfl (.inl rfl) ?_
  simp only [wx, wy, wz, stV, seval, IntWalk.iteOmega, IntWalk.toNatUp, reduceCtorEq]
  exact ret_f1 (by simp only [wx, wy, wz, stV, seval, IntWalk.iteOmega, IntWalk.toNatUp, reduceCtorEq])
theorem leaf_c (G : Glob) (hF : G.at 0 = some (.ra (firstK.map wD))) (hG : G.at 1 = some (.ra (constK.map wD))) (b : List UInt8) (hb : b.length ≤ 1000000000) : Den Tryd.prog G 103 [.sl (b.map bD)] (.w (.c (.d (.sl ((leafM b).map bD))))) := den_ro (leaf_f G hF hG b hb)
def sf_rleaf : SFn := ⟨1, 8,
  .seq (.reg [⟨(some 2), .mv (.k (.c .nil)), none⟩])
  (.seq (.reg [⟨(some 3), .bldSl false 1 1 (.int .u8 0) [(0, (.k (.c (.d (.int .u8 0)))))], none⟩,
    ⟨(some 4), .mv (.t 0), none⟩,
    ⟨(some 5), .bldSl false 2 1 (.sl []) [(0, (.t 3)), (1, (.t 4))], none⟩,
    ⟨(some 6), .call 41 [(.t 5)] none, none⟩,
    ⟨(some 7), .call 61 [(.t 6)] (some (0, 1)), none⟩,
    ⟨(some 2), .mv (.t 7), none⟩])
  (.ret)),
  [(2, none)]⟩
theorem cf_rleaf : compFn Tryd.prog { own := [7], comp := [], frz := [], nils := [] } Tryd.f112 = some sf_rleaf := by kernel_rfl
theorem rleaf_f (G : Glob) (hF : G.at 0 = some (.ra (firstK.map wD))) (hG : G.at 1 = some (.ra (constK.map wD))) (b : List UInt8) (hb : b.length ≤ 1000000000) : Den Tryd.prog G 112 [.sl (b.map bD)] (.w (.c (.fr 1 ((leafM b).map bD)))) := by
  refine den_walk Tryd.func112 cf_rleaf rfl rfl ?_
  have hj := rjoin_c G [[0], b] (by simp) (by simp; omega)
  have hf : [[0], b].flatten = 0 :: b := by simp
  rw [hf] at hj
  have hs := rsumH G hF hG (0 :: b) (by simp; omega)
  have hm : sumK (0 :: b) = leafM b := rfl
  rw [hm] at hs
  simp only [sf_rleaf, putAll, wx, wy, wz, stV, seval, IntWalk.iteOmega, IntWalk.toNatUp, reduceCtorEq]
  refine st_call (hj) rfl (.inl rfl) ?_
  simp only [wx, wy, wz, stV, seval, IntWalk.iteOmega, IntWalk.toNatUp, reduceCtorEq]
  refine st_call (hs) rfl (.inl rfl) ?_
  simp only [wx, wy, wz, stV, seval, IntWalk.iteOmega, IntWalk.toNatUp, reduceCtorEq]
  exact ret_f1 (by simp only [wx, wy, wz, stV, seval, IntWalk.iteOmega, IntWalk.toNatUp, reduceCtorEq])
theorem rleaf_c (G : Glob) (hF : G.at 0 = some (.ra (firstK.map wD))) (hG : G.at 1 = some (.ra (constK.map wD))) (b : List UInt8) (hb : b.length ≤ 1000000000) : Den Tryd.prog G 112 [.sl (b.map bD)] (.w (.c (.d (.sl ((leafM b).map bD))))) := den_ro (rleaf_f G hF hG b hb)
def sf_node : SFn := ⟨2, 11,
  .seq (.reg [⟨(some 4), .mv (.k (.c .nil)), none⟩])
  (.seq (.reg [⟨(some 5), .bldSl false 1 1 (.int .u8 0) [(0, (.k (.c (.d (.int .u8 1)))))], none⟩,
    ⟨(some 6), .mv (.t 0), none⟩,
    ⟨(some 7), .mv (.t 1), none⟩,
    ⟨(some 8), .bldSl false 3 1 (.sl []) [(0, (.t 5)), (1, (.t 6)), (2, (.t 7))], none⟩,
    ⟨(some 9), .call 43 [(.t 8)] none, none⟩,
    ⟨(some 10), .call 42 [(.t 9)] (some (0, 1)), none⟩,
    ⟨(some 4), .mv (.t 10), none⟩])
  (.ret)),
  [(4, none)]⟩
theorem cf_node : compFn Tryd.prog { own := [10], comp := [], frz := [], nils := [] } Tryd.f105 = some sf_node := by kernel_rfl
theorem node_f (G : Glob) (hF : G.at 0 = some (.ra (firstK.map wD))) (hG : G.at 1 = some (.ra (constK.map wD))) (l r : List UInt8) (hl : l.length ≤ 1000000000) (hr : r.length ≤ 1000000000) : Den Tryd.prog G 105 [.sl (l.map bD), .sl (r.map bD)] (.w (.c (.fr 1 ((nodeM l r).map bD)))) := by
  refine den_walk Tryd.func105 cf_node rfl rfl ?_
  have hj := join_c G [[1], l, r] (by simp) (by simp; omega)
  have hf : [[1], l, r].flatten = 1 :: (l ++ r) := by simp
  rw [hf] at hj
  have hs := sumH G hF hG (1 :: (l ++ r)) (by simp; omega)
  have hm : sumK (1 :: (l ++ r)) = nodeM l r := rfl
  rw [hm] at hs
  simp only [sf_node, putAll, wx, wy, wz, stV, seval, IntWalk.iteOmega, IntWalk.toNatUp, reduceCtorEq]
  refine st_call (hj) rfl (.inl rfl) ?_
  simp only [wx, wy, wz, stV, seval, IntWalk.iteOmega, IntWalk.toNatUp, reduceCtorEq]
  refine st_call (hs) rfl (.inl rfl) ?_
  simp only [wx, wy, wz, stV, seval, IntWalk.iteOmega, IntWalk.toNatUp, reduceCtorEq]
  exact ret_f1 (by simp only [wx, wy, wz, stV, seval, IntWalk.iteOmega, IntWalk.toNatUp, reduceCtorEq])
theorem node_c (G : Glob) (hF : G.at 0 = some (.ra (firstK.map wD))) (hG : G.at 1 = some (.ra (constK.map wD))) (l r : List UInt8) (hl : l.length ≤ 1000000000) (hr : r.length ≤ 1000000000) : Den Tryd.prog G 105 [.sl (l.map bD), .sl (r.map bD)] (.w (.c (.d (.sl ((nodeM l r).map bD))))) := den_ro (node_f G hF hG l r hl hr)
def sf_rnode : SFn := ⟨2, 11,
  .seq (.reg [⟨(some 4), .mv (.k (.c .nil)), none⟩])
  (.seq (.reg [⟨(some 5), .bldSl false 1 1 (.int .u8 0) [(0, (.k (.c (.d (.int .u8 1)))))], none⟩,
    ⟨(some 6), .mv (.t 0), none⟩,
    ⟨(some 7), .mv (.t 1), none⟩,
    ⟨(some 8), .bldSl false 3 1 (.sl []) [(0, (.t 5)), (1, (.t 6)), (2, (.t 7))], none⟩,
    ⟨(some 9), .call 41 [(.t 8)] none, none⟩,
    ⟨(some 10), .call 61 [(.t 9)] (some (0, 1)), none⟩,
    ⟨(some 4), .mv (.t 10), none⟩])
  (.ret)),
  [(4, none)]⟩
theorem cf_rnode : compFn Tryd.prog { own := [10], comp := [], frz := [], nils := [] } Tryd.f114 = some sf_rnode := by kernel_rfl
theorem rnode_f (G : Glob) (hF : G.at 0 = some (.ra (firstK.map wD))) (hG : G.at 1 = some (.ra (constK.map wD))) (l r : List UInt8) (hl : l.length ≤ 1000000000) (hr : r.length ≤ 1000000000) : Den Tryd.prog G 114 [.sl (l.map bD), .sl (r.map bD)] (.w (.c (.fr 1 ((nodeM l r).map bD)))) := by
  refine den_walk Tryd.func114 cf_rnode rfl rfl ?_
  have hj := rjoin_c G [[1], l, r] (by simp) (by simp; omega)
  have hf : [[1], l, r].flatten = 1 :: (l ++ r) := by simp
  rw [hf] at hj
  have hs := rsumH G hF hG (1 :: (l ++ r)) (by simp; omega)
  have hm : sumK (1 :: (l ++ r)) = nodeM l r := rfl
  rw [hm] at hs
  simp only [sf_rnode, putAll, wx, wy, wz, stV, seval, IntWalk.iteOmega, IntWalk.toNatUp, reduceCtorEq]
  refine st_call (hj) rfl (.inl rfl) ?_
  simp only [wx, wy, wz, stV, seval, IntWalk.iteOmega, IntWalk.toNatUp, reduceCtorEq]
  refine st_call (hs) rfl (.inl rfl) ?_
  simp only [wx, wy, wz, stV, seval, IntWalk.iteOmega, IntWalk.toNatUp, reduceCtorEq]
  exact ret_f1 (by simp only [wx, wy, wz, stV, seval, IntWalk.iteOmega, IntWalk.toNatUp, reduceCtorEq])
theorem rnode_c (G : Glob) (hF : G.at 0 = some (.ra (firstK.map wD))) (hG : G.at 1 = some (.ra (constK.map wD))) (l r : List UInt8) (hl : l.length ≤ 1000000000) (hr : r.length ≤ 1000000000) : Den Tryd.prog G 114 [.sl (l.map bD), .sl (r.map bD)] (.w (.c (.d (.sl ((nodeM l r).map bD))))) := den_ro (rnode_f G hF hG l r hl hr)
/-! ### The greatest power of two below a number -/
theorem log2_256 {x : Nat} (h : 256 ≤ x) : Nat.log2 x = Nat.log2 (x / 256) + 8 := by
  rw [Nat.log2_eq_iff (by omega)]
  have h1 := Nat.log2_self_le (n := x / 256) (by omega)
  have h2 := Nat.lt_log2_self (n := x / 256)
  generalize Nat.log2 (x / 256) = k at *
  have e1 : 2 ^ (k + 8) = 2 ^ k * 256 := by rw [Nat.pow_add]
  have e2 : 2 ^ (k + 8 + 1) = 2 ^ (k + 1) * 256 := by rw [show k + 8 + 1 = k + 1 + 8 by omega, Nat.pow_add]
  rw [e1, e2]
  omega
theorem log2_lt {x j : Nat} (h0 : 1 ≤ x) (h : x < 2 ^ j) : Nat.log2 x < j := by
  have h1 := Nat.log2_self_le (n := x) (by omega)
  exact (Nat.pow_lt_pow_iff_right (by decide)).1 (by omega : 2 ^ Nat.log2 x < 2 ^ j)
theorem bD_nat {k : Nat} (h : k < 256) : (UInt8.ofNat k).toNat = k := by rw [UInt8.toNat_ofNat_of_lt' (by simpa [UInt8.size] using h)]
def lit_len64_0 : ByteArray := ⟨#[0, 1, 2, 2, 3, 3, 3, 3, 4, 4, 4, 4, 4, 4, 4, 4, 5, 5, 5, 5, 5, 5, 5, 5, 5, 5, 5, 5, 5, 5, 5, 5, 6, 6, 6, 6, 6, 6, 6, 6, 6, 6, 6, 6, 6, 6, 6, 6, 6, 6, 6, 6, 6, 6, 6, 6, 6, 6, 6, 6, 6, 6, 6, 6, 7, 7, 7, 7, 7, 7, 7, 7, 7, 7, 7, 7, 7, 7, 7, 7, 7, 7, 7, 7, 7, 7, 7, 7, 7, 7, 7, 7, 7, 7, 7, 7, 7, 7, 7, 7, 7, 7, 7, 7, 7, 7, 7, 7, 7, 7, 7, 7, 7, 7, 7, 7, 7, 7, 7, 7, 7, 7, 7, 7, 7, 7, 7, 7, 8, 8, 8, 8, 8, 8, 8, 8, 8, 8, 8, 8, 8, 8, 8, 8, 8, 8, 8, 8, 8, 8, 8, 8, 8, 8, 8, 8, 8, 8, 8, 8, 8, 8, 8, 8, 8, 8, 8, 8, 8, 8, 8, 8, 8, 8, 8, 8, 8, 8, 8, 8, 8, 8, 8, 8, 8, 8, 8, 8, 8, 8, 8, 8, 8, 8, 8, 8, 8, 8, 8, 8, 8, 8, 8, 8, 8, 8, 8, 8, 8, 8, 8, 8, 8, 8, 8, 8, 8, 8, 8, 8, 8, 8, 8, 8, 8, 8, 8, 8, 8, 8, 8, 8, 8, 8, 8, 8, 8, 8, 8, 8, 8, 8, 8, 8, 8, 8, 8, 8, 8, 8, 8, 8, 8, 8, 8, 8]⟩
def sf_len64 : SFn := ⟨1, 25,
  .seq (.reg [⟨(some 2), .mv (.k (.c (.d (.int .i64 0)))), none⟩])
  (.seq (.seq (.reg [⟨(some 3), .mv (.t 0), none⟩,
    ⟨(some 4), .bin .geq (.t 3) (.k (.c (.d (.int .u64 4294967296)))), none⟩])
  (.cond (.t 4) (.seq (.reg [⟨(some 5), .mv (.t 0), none⟩,
     ⟨(some 6), .bin .shr (.t 5) (.k (.c (.d (.int .u64 32)))), none⟩,
     ⟨(some 0), .mv (.t 6), none⟩])
   (.reg [⟨(some 2), .mv (.k (.c (.d (.int .i64 32)))), none⟩]))
   (.skip)))
  (.seq (.seq (.reg [⟨(some 7), .mv (.t 0), none⟩,
    ⟨(some 8), .bin .geq (.t 7) (.k (.c (.d (.int .u64 65536)))), none⟩])
  (.cond (.t 8) (.seq (.reg [⟨(some 9), .mv (.t 0), none⟩,
     ⟨(some 10), .bin .shr (.t 9) (.k (.c (.d (.int .u64 16)))), none⟩,
     ⟨(some 0), .mv (.t 10), none⟩])
   (.reg [⟨(some 11), .mv (.t 2), none⟩,
     ⟨(some 12), .bin .add (.t 11) (.k (.c (.d (.int .i64 16)))), none⟩,
     ⟨(some 2), .mv (.t 12), none⟩]))
   (.skip)))
  (.seq (.seq (.reg [⟨(some 13), .mv (.t 0), none⟩,
    ⟨(some 14), .bin .geq (.t 13) (.k (.c (.d (.int .u64 256)))), none⟩])
  (.cond (.t 14) (.seq (.reg [⟨(some 15), .mv (.t 0), none⟩,
     ⟨(some 16), .bin .shr (.t 15) (.k (.c (.d (.int .u64 8)))), none⟩,
     ⟨(some 0), .mv (.t 16), none⟩])
   (.reg [⟨(some 17), .mv (.t 2), none⟩,
     ⟨(some 18), .bin .add (.t 17) (.k (.c (.d (.int .i64 8)))), none⟩,
     ⟨(some 2), .mv (.t 18), none⟩]))
   (.skip)))
  (.seq (.reg [⟨(some 19), .mv (.t 2), none⟩,
    ⟨(some 20), .mv (.t 0), none⟩,
    ⟨(some 21), .conv .u8 (.t 20), none⟩,
    ⟨(some 22), .idxStr (.k (.c (.d (.str lit_len64_0)))) (.t 21), none⟩,
    ⟨(some 23), .conv .i64 (.t 22), none⟩,
    ⟨(some 24), .bin .add (.t 19) (.t 23), none⟩,
    ⟨(some 2), .mv (.t 24), none⟩])
  (.ret))))),
  [(2, none)]⟩
theorem cf_len64 : compFn Tryd.prog { own := [], comp := [], frz := [], nils := [] } Tryd.f127 = some sf_len64 := by kernel_rfl
set_option maxRecDepth 100000 in
theorem len8_size : lit_len64_0.size = 256 := by rfl
set_option maxRecDepth 100000 in
theorem len8_get (j : Nat) (h0 : 1 ≤ j) (h : j < 256) : lit_len64_0.data.toList[j]? = some (UInt8.ofNat (Nat.log2 j + 1)) := by
  have : ∀ j : Fin 256, 1 ≤ j.val → lit_len64_0.data.toList[j.val]? = some (UInt8.ofNat (Nat.log2 j.val + 1)) := by decide +kernel
  exact this ⟨j, h⟩ h0
set_option maxRecDepth 100000 in
set_option maxHeartbeats 1600000 in
theorem len64_c (G : Glob) (x : Nat) (h0 : 1 ≤ x) (h : x < 65536) : Den Tryd.prog G 127 [.int .u64 (x : Int)] (.w (.c (.d (.int .i64 ((Nat.log2 x + 1 : Nat) : Int))))) := by
  refine den_walk Tryd.func127 cf_len64 rfl rfl ?_
  by_cases hx : x < 256
  · have hk := log2_lt (j := 8) h0 (by omega)
    have hg := len8_get x h0 hx
    have hb := bD_nat (k := Nat.log2 x + 1) (by omega)
    generalize Nat.log2 x = k at *
    simp only [sf_len64, putAll, wx, wy, wz, stV, seval, IntWalk.iteOmega, IntWalk.toNatUp, reduceCtorEq, len8_size, hg, bD, hb]
    exact ret_d1 (by simp only [wx, wy, wz, stV, seval, IntWalk.iteOmega, IntWalk.toNatUp, reduceCtorEq, Int.zero_add])
  · have e1 : (x : Int) / 256 = ((x / 256 : Nat) : Int) := rfl
    have hk := log2_lt (j := 8) (x := x / 256) (by omega) (by omega)
    have hg := len8_get (x / 256) (by omega) (by omega)
    have hb := bD_nat (k := Nat.log2 (x / 256) + 1) (by omega)
    rw [log2_256 (by omega)]
    have hd : x / 256 < 256 := by omega
    generalize Nat.log2 (x / 256) = k at *
    generalize x / 256 = y at *
    simp only [sf_len64, putAll, wx, wy, wz, stV, seval, IntWalk.iteOmega, IntWalk.toNatUp, reduceCtorEq, IntKind.bits, e1, len8_size, hg, bD, hb]
    exact ret_d1 (by simp only [wx, wy, wz, stV, seval, IntWalk.iteOmega, IntWalk.toNatUp, reduceCtorEq, show (8 : Int) + ((k : Int) + 1) = (k : Int) + 8 + 1 by omega])
def sf_len : SFn := ⟨1, 8,
  .seq (.reg [⟨(some 2), .mv (.k (.c (.d (.int .i64 0)))), none⟩])
  (.seq (.cond (.k (.c (.d (.bool false)))) (.seq (.reg [⟨(some 3), .mv (.t 0), none⟩,
     ⟨(some 4), .conv .u32 (.t 3), none⟩,
     ⟨(some 5), .call 126 [(.t 4)] none, none⟩,
     ⟨(some 2), .mv (.t 5), none⟩])
   (.ret))
   (.skip))
  (.seq (.reg [⟨(some 6), .mv (.t 0), none⟩,
    ⟨(some 7), .call 127 [(.t 6)] none, none⟩,
    ⟨(some 2), .mv (.t 7), none⟩])
  (.ret))),
  [(2, none)]⟩
theorem cf_len : compFn Tryd.prog { own := [], comp := [], frz := [], nils := [] } Tryd.f121 = some sf_len := by kernel_rfl
theorem len_c (G : Glob) (x : Nat) (h0 : 1 ≤ x) (h : x < 65536) : Den Tryd.prog G 121 [.int .u64 (x : Int)] (.w (.c (.d (.int .i64 ((Nat.log2 x + 1 : Nat) : Int))))) := by
  refine den_walk Tryd.func121 cf_len rfl rfl ?_
  simp only [sf_len, putAll, wx, wy, wz, stV, seval, IntWalk.iteOmega, IntWalk.toNatUp, reduceCtorEq]
  refine st_call (len64_c G x h0 h) rfl (.inl rfl) ?_
  simp only [wx, wy, wz, stV, seval, IntWalk.iteOmega, IntWalk.toNatUp, reduceCtorEq]
  exact ret_d1 (by simp only [wx, wy, wz, stV, seval, IntWalk.iteOmega, IntWalk.toNatUp, reduceCtorEq])
def sf_half : SFn := ⟨1, 9,
  .seq (.reg [⟨(some 2), .mv (.k (.c (.d (.int .i64 0)))), none⟩])
  (.seq (.reg [⟨(some 3), .mv (.t 0), none⟩,
    ⟨(some 4), .bin .sub (.t 3) (.k (.c (.d (.int .i64 1)))), none⟩,
    ⟨(some 5), .conv .u64 (.t 4), none⟩,
    ⟨(some 6), .call 121 [(.t 5)] none, none⟩,
    ⟨(some 7), .bin .sub (.t 6) (.k (.c (.d (.int .i64 1)))), none⟩,
    ⟨(some 8), .bin .shl (.k (.c (.d (.int .i64 1)))) (.t 7), none⟩,
    ⟨(some 2), .mv (.t 8), none⟩])
  (.ret)),
  [(2, none)]⟩
theorem cf_half : compFn Tryd.prog { own := [], comp := [], frz := [], nils := [] } Tryd.f108 = some sf_half := by kernel_rfl
set_option maxHeartbeats 1600000 in
theorem half_c (G : Glob) (n : Nat) (h0 : 2 ≤ n) (h : n ≤ 65536) : Den Tryd.prog G 108 [.int .i64 (n : Int)] (.w (.c (.d (.int .i64 ((splitN n : Nat) : Int))))) := by
  refine den_walk Tryd.func108 cf_half rfl rfl ?_
  have e1 : (n : Int) - 1 = ((n - 1 : Nat) : Int) := by omega
  have hk := log2_lt (j := 16) (x := n - 1) (by omega) (by omega)
  have hl := len_c G (n - 1) (by omega) (by omega)
  have hs : splitN n = 2 ^ Nat.log2 (n - 1) := rfl
  have hp : 2 ^ Nat.log2 (n - 1) ≤ 2 ^ 15 := Nat.pow_le_pow_right (by decide) (by omega)
  rw [hs]
  generalize n - 1 = m at *
  generalize Nat.log2 m = k at *
  have h2 : (2 : Int) ^ k = ((2 ^ k : Nat) : Int) := by simp
  have e4 : (k : Int) + 1 - 1 = (k : Int) := by omega
  simp only [sf_half, putAll, wx, wy, wz, stV, seval, IntWalk.iteOmega, IntWalk.toNatUp, reduceCtorEq, e1]
  refine st_call (hl) rfl (.inl rfl) ?_
  simp only [IntKind.bits, e4, Int.toNat_natCast, h2, Int.one_mul, wx, wy, wz, stV, seval, IntWalk.iteOmega, IntWalk.toNatUp, reduceCtorEq]
  exact ret_d1 (by simp only [wx, wy, wz, stV, seval, IntWalk.iteOmega, IntWalk.toNatUp, reduceCtorEq])
end Go.Proofs.YtjgkchmdhicmpaaDoor
set_option linter.unusedVariables false
set_option linter.unusedSimpArgs false
namespace Go.Proofs.YtjgkchmdhicmpaaDoor
open Go.RowKit

abbrev boD (b : Bool) : D := .bool b
theorem allSz_bo (l : List Bool) : allSz 1 (l.map boD) = true := allSz_map _ (fun _ => rfl) l
theorem slice_lo (l : List (List UInt8)) {k : Nat} (h : k ≤ l.length) : (l.drop k).take (l.length - k) = l.drop k := List.take_of_length_le (by rw [List.length_drop]; omega)
def sf_divd : SFn := ⟨1, 14,
  .seq (.reg [⟨(some 2), .mv (.k (.c .nil)), none⟩,
    ⟨(some 3), .mv (.k (.c .nil)), none⟩])
  (.seq (.reg [⟨(some 5), .mv (.t 0), none⟩,
    ⟨(some 6), .len (.t 5), none⟩,
    ⟨(some 7), .call 108 [(.t 6)] none, none⟩,
    ⟨(some 4), .mv (.t 7), none⟩])
  (.seq (.reg [⟨(some 8), .mv (.t 0), none⟩,
    ⟨(some 9), .mv (.t 4), none⟩,
    ⟨(some 10), .slice 1 (.t 8) none (some (.t 9)) none, none⟩,
    ⟨(some 11), .mv (.t 0), none⟩,
    ⟨(some 12), .mv (.t 4), none⟩,
    ⟨(some 13), .slice 1 (.t 11) (some (.t 12)) none none, none⟩,
    ⟨(some 2), .mv (.t 10), none⟩,
    ⟨(some 3), .mv (.t 13), none⟩])
  (.ret))),
  [(2, none), (3, none)]⟩
theorem cf_divd : compFn Tryd.prog { own := [], comp := [], frz := [], nils := [] } Tryd.f104 = some sf_divd := by kernel_rfl
set_option maxHeartbeats 1600000 in
theorem divd_c (G : Glob) (l : List (List UInt8)) (h0 : 2 ≤ l.length) (h : l.length ≤ 65536) : Den Tryd.prog G 104 [sls l] (.tup [.c (.d (sls (l.take (splitN l.length)))), .c (.d (sls (l.drop (splitN l.length))))]) := by
  refine den_walk Tryd.func104 cf_divd rfl rfl ?_
  have hh := half_c G l.length h0 h
  have h1 := split_lt h0
  have h2 := slice_lo l (k := splitN l.length) (by omega)
  generalize splitN l.length = k at *
  simp only [sf_divd, putAll, wx, wy, wz, stV, seval, IntWalk.iteOmega, IntWalk.toNatUp, reduceCtorEq]
  refine st_call (hh) rfl (.inl rfl) ?_
  simp only [h2, allSz_ls, wx, wy, wz, stV, seval, IntWalk.iteOmega, IntWalk.toNatUp, reduceCtorEq]
  exact ret_d2 (by simp only [wx, wy, wz, stV, seval, IntWalk.iteOmega, IntWalk.toNatUp, reduceCtorEq]) (by simp only [wx, wy, wz, stV, seval, IntWalk.iteOmega, IntWalk.toNatUp, reduceCtorEq])
def sf_rof : SFn := ⟨1, 26,
  .seq (.reg [⟨(some 2), .mv (.k (.c .nil)), none⟩])
  (.seq (.seq (.reg [⟨(some 5), .mv (.t 0), none⟩,
    ⟨(some 6), .len (.t 5), none⟩])
  (.block 0 (.seq (.reg [⟨(some 8), .bin .eql (.t 6) (.k (.c (.d (.int .i64 0)))), none⟩,
     ⟨(some 7), .mv (.t 8), none⟩])
   (.cond (.t 7) (.seq (.reg [⟨(some 9), .call 42 [(.k (.c .nil))] (some (0, 1)), none⟩,
      ⟨(some 2), .mv (.t 9), none⟩])
    (.ret))
    (.seq (.reg [⟨(some 11), .bin .eql (.t 6) (.k (.c (.d (.int .i64 1)))), none⟩,
      ⟨(some 10), .mv (.t 11), none⟩])
    (.cond (.t 10) (.seq (.reg [⟨(some 12), .mv (.t 0), none⟩,
       ⟨(some 13), .idxSl 1 (.t 12) (.k (.c (.d (.int .i64 0)))), none⟩,
       ⟨(some 14), .load .sc (.t 13), none⟩,
       ⟨(some 15), .call 103 [(.t 14)] (some (0, 1)), none⟩,
       ⟨(some 2), .mv (.t 15), none⟩])
     (.ret))
     (.skip)))))))
  (.seq (.reg [⟨(some 17), .mv (.t 0), none⟩,
    ⟨(some 18), .call 104 [(.t 17)] none, none⟩,
    ⟨(some 16), .mv (.t 18), none⟩,
    ⟨(some 19), .extract (.t 16) 0, none⟩,
    ⟨(some 20), .extract (.t 16) 1, none⟩,
    ⟨(some 3), .mv (.t 19), none⟩,
    ⟨(some 4), .mv (.t 20), none⟩])
  (.seq (.reg [⟨(some 21), .mv (.t 3), none⟩,
    ⟨(some 22), .call 62 [(.t 21)] none, none⟩,
    ⟨(some 23), .mv (.t 4), none⟩,
    ⟨(some 24), .call 62 [(.t 23)] none, none⟩,
    ⟨(some 25), .call 105 [(.t 22), (.t 24)] (some (0, 1)), none⟩,
    ⟨(some 2), .mv (.t 25), none⟩])
  (.ret)))),
  [(2, none)]⟩
theorem cf_rof : compFn Tryd.prog { own := [9, 15, 25], comp := [], frz := [], nils := [] } Tryd.f62 = some sf_rof := by kernel_rfl
set_option maxHeartbeats 1600000 in
theorem rof_f (G : Glob) (hF : G.at 0 = some (.ra (firstK.map wD))) (hG : G.at 1 = some (.ra (constK.map wD))) : ∀ (n : Nat) (l : List (List UInt8)), l.length = n → n ≤ 65536 → (∀ x ∈ l, x.length ≤ 1000000000) → Den Tryd.prog G 62 [sls l] (.w (.c (.fr 1 ((rootM l).map bD)))) := by
  intro n
  induction n using Nat.strongRecOn with
  | _ n ih =>
    intro l hl hn hb
    subst hl
    refine den_walk Tryd.func62 cf_rof rfl rfl ?_
    by_cases h0 : l.length = 0
    · rw [root_0 h0]
      simp only [sf_rof, putAll, wx, wy, wz, stV, seval, IntWalk.iteOmega, IntWalk.toNatUp, reduceCtorEq, h0]
      refine st_call (sumH G hF hG [] (by simp)) (by simp only [wx, wy, wz, stV, seval, IntWalk.iteOmega, IntWalk.toNatUp, reduceCtorEq]) (.inl rfl) ?_
      simp only [wx, wy, wz, stV, seval, IntWalk.iteOmega, IntWalk.toNatUp, reduceCtorEq]
      exact ret_f1 (by simp only [wx, wy, wz, stV, seval, IntWalk.iteOmega, IntWalk.toNatUp, reduceCtorEq])
    · by_cases h1 : l.length = 1
      · rw [root_1 h1]
        have g1 := getLs (l := l) (j := 0) (by omega)
        simp only [sf_rof, putAll, wx, wy, wz, stV, seval, IntWalk.iteOmega, IntWalk.toNatUp, reduceCtorEq, h1, get_map, g1]
        refine st_call (leaf_f G hF hG (l.getD 0 []) (hb _ (getLs_mem (by omega)))) rfl (.inl rfl) ?_
        simp only [wx, wy, wz, stV, seval, IntWalk.iteOmega, IntWalk.toNatUp, reduceCtorEq]
        exact ret_f1 (by simp only [wx, wy, wz, stV, seval, IntWalk.iteOmega, IntWalk.toNatUp, reduceCtorEq])
      · have h2 : 2 ≤ l.length := by omega
        have k1 := split_lt h2
        have k2 := split_pos l.length
        have a1 := den_ro (ih _ k1 (l.take (splitN l.length)) (by rw [List.length_take]; omega) (by omega) (fun x hx => hb x (List.mem_of_mem_take hx)))
        have a2 := den_ro (ih (l.length - splitN l.length) (by omega) (l.drop (splitN l.length)) List.length_drop (by omega) (fun x hx => hb x (List.mem_of_mem_drop hx)))
        have a3 := node_f G hF hG (rootM (l.take (splitN l.length))) (rootM (l.drop (splitN l.length))) (by rw [rootM_len]; decide) (by rw [rootM_len]; decide)
        rw [← root_2 h2] at a3
        simp only [sf_rof, putAll, wx, wy, wz, stV, seval, IntWalk.iteOmega, IntWalk.toNatUp, reduceCtorEq]
        refine st_call (divd_c G l h2 hn) rfl (.inl rfl) ?_
        simp only [wx, wy, wz, stV, seval, IntWalk.iteOmega, IntWalk.toNatUp, reduceCtorEq]
        refine st_call (a1) rfl (.inl rfl) ?_
        simp only [wx, wy, wz, stV, seval, IntWalk.iteOmega, IntWalk.toNatUp, reduceCtorEq]
        refine st_call (a2) rfl (.inl rfl) ?_
        simp only [wx, wy, wz, stV, seval, IntWalk.iteOmega, IntWalk.toNatUp, reduceCtorEq]
        refine st_call (a3) rfl (.inl rfl) ?_
        simp only [wx, wy, wz, stV, seval, IntWalk.iteOmega, IntWalk.toNatUp, reduceCtorEq]
        exact ret_f1 (by simp only [wx, wy, wz, stV, seval, IntWalk.iteOmega, IntWalk.toNatUp, reduceCtorEq])
theorem rof_c (G : Glob) (hF : G.at 0 = some (.ra (firstK.map wD))) (hG : G.at 1 = some (.ra (constK.map wD))) (l : List (List UInt8)) (hn : l.length ≤ 65536) (hb : ∀ x ∈ l, x.length ≤ 1000000000) : Den Tryd.prog G 62 [sls l] (.w (.c (.d (.sl ((rootM l).map bD))))) := den_ro (rof_f G hF hG l.length l rfl hn hb)
def sf_oth : SFn := ⟨3, 41,
  .seq (.reg [⟨(some 6), .mv (.k (.c .nil)), none⟩])
  (.seq (.seq (.reg [⟨(some 9), .mv (.t 0), none⟩,
    ⟨(some 10), .len (.t 9), none⟩,
    ⟨(some 11), .mv (.t 2), none⟩,
    ⟨(some 12), .bin .leq (.t 10) (.t 11), none⟩])
  (.cond (.t 12) (.seq (.reg [⟨(some 6), .mv (.k (.c .nil)), none⟩])
   (.ret))
   (.skip)))
  (.seq (.reg [⟨(some 14), .mv (.t 0), none⟩,
    ⟨(some 15), .call 104 [(.t 14)] none, none⟩,
    ⟨(some 13), .mv (.t 15), none⟩,
    ⟨(some 16), .extract (.t 13) 0, none⟩,
    ⟨(some 17), .extract (.t 13) 1, none⟩,
    ⟨(some 7), .mv (.t 16), none⟩,
    ⟨(some 8), .mv (.t 17), none⟩])
  (.seq (.seq (.reg [⟨(some 18), .mv (.t 1), none⟩,
    ⟨(some 19), .mv (.t 7), none⟩,
    ⟨(some 20), .len (.t 19), none⟩,
    ⟨(some 21), .bin .lss (.t 18) (.t 20), none⟩])
  (.cond (.t 21) (.seq (.reg [⟨(some 22), .mv (.t 7), none⟩,
     ⟨(some 23), .mv (.t 1), none⟩,
     ⟨(some 24), .mv (.t 2), none⟩,
     ⟨(some 25), .call 63 [(.t 22), (.t 23), (.t 24)] (some (0, 1)), none⟩,
     ⟨(some 26), .mv (.t 8), none⟩,
     ⟨(some 27), .call 62 [(.t 26)] none, none⟩,
     ⟨(some 28), .bldSl false 1 1 (.sl []) [(0, (.t 27))], none⟩,
     ⟨(some 29), .app false 1 24 (.t 25) (.t 28), none⟩,
     ⟨(some 6), .mv (.t 29), none⟩])
   (.ret))
   (.skip)))
  (.seq (.reg [⟨(some 30), .mv (.t 8), none⟩,
    ⟨(some 31), .mv (.t 1), none⟩,
    ⟨(some 32), .mv (.t 7), none⟩,
    ⟨(some 33), .len (.t 32), none⟩,
    ⟨(some 34), .bin .sub (.t 31) (.t 33), none⟩,
    ⟨(some 35), .mv (.t 2), none⟩,
    ⟨(some 36), .call 63 [(.t 30), (.t 34), (.t 35)] (some (0, 1)), none⟩,
    ⟨(some 37), .mv (.t 7), none⟩,
    ⟨(some 38), .call 62 [(.t 37)] none, none⟩,
    ⟨(some 39), .bldSl false 1 1 (.sl []) [(0, (.t 38))], none⟩,
    ⟨(some 40), .app false 1 24 (.t 36) (.t 39), none⟩,
    ⟨(some 6), .mv (.t 40), none⟩])
  (.ret))))),
  [(6, none)]⟩
theorem cf_oth : compFn Tryd.prog { own := [25, 36], comp := [], frz := [], nils := [] } Tryd.f63 = some sf_oth := by kernel_rfl
set_option maxHeartbeats 3200000 in
theorem oth_f (G : Glob) (hF : G.at 0 = some (.ra (firstK.map wD))) (hG : G.at 1 = some (.ra (constK.map wD))) (s : Nat) (hs : 1 ≤ s) : ∀ (n : Nat) (l : List (List UInt8)) (i : Nat), l.length = n → n ≤ 65536 → i < n → (∀ x ∈ l, x.length ≤ 1000000000) → Den Tryd.prog G 63 [sls l, .int .i64 (i : Int), .int .i64 (s : Int)] (.w (.c (.fr 1 ((othM l i s).map fun l => D.sl (l.map bD))))) := by
  intro n
  induction n using Nat.strongRecOn with
  | _ n ih =>
    intro l i hl hn hi hb
    subst hl
    refine den_walk Tryd.func63 cf_oth rfl rfl ?_
    by_cases h0 : l.length ≤ s
    · rw [oth_0 h0]
      simp only [sf_oth, putAll, wx, wy, wz, stV, seval, IntWalk.iteOmega, IntWalk.toNatUp, reduceCtorEq]
      exact ret_f1 (by simp only [wx, wy, wz, stV, seval, IntWalk.iteOmega, IntWalk.toNatUp, reduceCtorEq])
    · have h2 : 2 ≤ l.length := by omega
      have k1 := split_lt h2
      have k2 := split_pos l.length
      have hd := divd_c G l h2 hn
      by_cases hk : i < splitN l.length
      · have l1 : (l.take (splitN l.length)).length = splitN l.length := by rw [List.length_take]; omega
        have a1 := ih _ k1 (l.take (splitN l.length)) i l1 (by omega) hk (fun x hx => hb x (List.mem_of_mem_take hx))
        have a2 := rof_c G hF hG (l.drop (splitN l.length)) (by rw [List.length_drop]; omega) (fun x hx => hb x (List.mem_of_mem_drop hx))
        have a3 := oth_le _ (l.take (splitN l.length)) i s l1
        rw [oth_lo hs (by omega) hk, List.map_append]
        simp only [sf_oth, putAll, wx, wy, wz, stV, seval, IntWalk.iteOmega, IntWalk.toNatUp, reduceCtorEq]
        refine st_call (hd) rfl (.inl rfl) ?_
        simp only [l1, wx, wy, wz, stV, seval, IntWalk.iteOmega, IntWalk.toNatUp, reduceCtorEq]
        refine st_call (a1) rfl (.inl rfl) ?_
        simp only [wx, wy, wz, stV, seval, IntWalk.iteOmega, IntWalk.toNatUp, reduceCtorEq]
        refine st_call (a2) rfl (.inl rfl) ?_
        simp only [srcV, wx, wy, wz, stV, seval, IntWalk.iteOmega, IntWalk.toNatUp, reduceCtorEq]
        exact ret_f1 (by simp only [wx, wy, wz, stV, seval, IntWalk.iteOmega, IntWalk.toNatUp, reduceCtorEq])
      · have l1 : (l.take (splitN l.length)).length = splitN l.length := by rw [List.length_take]; omega
        have l2 : (l.drop (splitN l.length)).length = l.length - splitN l.length := List.length_drop
        have a1 := ih (l.length - splitN l.length) (by omega) (l.drop (splitN l.length)) (i - splitN l.length) l2 (by omega) (by omega) (fun x hx => hb x (List.mem_of_mem_drop hx))
        have a2 := rof_c G hF hG (l.take (splitN l.length)) (by omega) (fun x hx => hb x (List.mem_of_mem_take hx))
        have a3 := oth_le _ (l.drop (splitN l.length)) (i - splitN l.length) s l2
        have e1 : ((i - splitN l.length : Nat) : Int) = (i : Int) - (splitN l.length : Nat) := by omega
        rw [e1] at a1
        rw [oth_hi hs (by omega) hk, List.map_append]
        simp only [sf_oth, putAll, wx, wy, wz, stV, seval, IntWalk.iteOmega, IntWalk.toNatUp, reduceCtorEq]
        refine st_call (hd) rfl (.inl rfl) ?_
        simp only [l1, wx, wy, wz, stV, seval, IntWalk.iteOmega, IntWalk.toNatUp, reduceCtorEq]
        refine st_call (a1) rfl (.inl rfl) ?_
        simp only [wx, wy, wz, stV, seval, IntWalk.iteOmega, IntWalk.toNatUp, reduceCtorEq]
        refine st_call (a2) rfl (.inl rfl) ?_
        simp only [srcV, wx, wy, wz, stV, seval, IntWalk.iteOmega, IntWalk.toNatUp, reduceCtorEq]
        exact ret_f1 (by simp only [wx, wy, wz, stV, seval, IntWalk.iteOmega, IntWalk.toNatUp, reduceCtorEq])
def sf_way : SFn := ⟨3, 32,
  .seq (.reg [⟨(some 6), .mv (.k (.c .nil)), none⟩])
  (.seq (.seq (.reg [⟨(some 8), .mv (.t 0), none⟩,
    ⟨(some 9), .mv (.t 2), none⟩,
    ⟨(some 10), .bin .leq (.t 8) (.t 9), none⟩])
  (.cond (.t 10) (.seq (.reg [⟨(some 6), .mv (.k (.c .nil)), none⟩])
   (.ret))
   (.skip)))
  (.seq (.reg [⟨(some 11), .mv (.t 0), none⟩,
    ⟨(some 12), .call 108 [(.t 11)] none, none⟩,
    ⟨(some 7), .mv (.t 12), none⟩])
  (.seq (.seq (.reg [⟨(some 13), .mv (.t 1), none⟩,
    ⟨(some 14), .mv (.t 7), none⟩,
    ⟨(some 15), .bin .lss (.t 13) (.t 14), none⟩])
  (.cond (.t 15) (.seq (.reg [⟨(some 16), .mv (.t 7), none⟩,
     ⟨(some 17), .mv (.t 1), none⟩,
     ⟨(some 18), .mv (.t 2), none⟩,
     ⟨(some 19), .call 68 [(.t 16), (.t 17), (.t 18)] (some (0, 1)), none⟩,
     ⟨(some 20), .bldSl false 1 1 (.bool false) [(0, (.k (.c (.d (.bool false)))))], none⟩,
     ⟨(some 21), .app false 1 1 (.t 19) (.t 20), none⟩,
     ⟨(some 6), .mv (.t 21), none⟩])
   (.ret))
   (.skip)))
  (.seq (.reg [⟨(some 22), .mv (.t 0), none⟩,
    ⟨(some 23), .mv (.t 7), none⟩,
    ⟨(some 24), .bin .sub (.t 22) (.t 23), none⟩,
    ⟨(some 25), .mv (.t 1), none⟩,
    ⟨(some 26), .mv (.t 7), none⟩,
    ⟨(some 27), .bin .sub (.t 25) (.t 26), none⟩,
    ⟨(some 28), .mv (.t 2), none⟩,
    ⟨(some 29), .call 68 [(.t 24), (.t 27), (.t 28)] (some (0, 1)), none⟩,
    ⟨(some 30), .bldSl false 1 1 (.bool false) [(0, (.k (.c (.d (.bool true)))))], none⟩,
    ⟨(some 31), .app false 1 1 (.t 29) (.t 30), none⟩,
    ⟨(some 6), .mv (.t 31), none⟩])
  (.ret))))),
  [(6, none)]⟩
theorem cf_way : compFn Tryd.prog { own := [19, 29], comp := [], frz := [], nils := [] } Tryd.f68 = some sf_way := by kernel_rfl
set_option maxHeartbeats 3200000 in
theorem way_f (G : Glob) (s : Nat) (hs : 1 ≤ s) (hs2 : s ≤ 65536) : ∀ (n i : Nat), n ≤ 65536 → i < n → Den Tryd.prog G 68 [.int .i64 (n : Int), .int .i64 (i : Int), .int .i64 (s : Int)] (.w (.c (.fr 1 ((wayM n i s).map boD)))) := by
  intro n
  induction n using Nat.strongRecOn with
  | _ n ih =>
    intro i hn hi
    refine den_walk Tryd.func68 cf_way rfl rfl ?_
    by_cases h0 : n ≤ s
    · rw [way_0 h0]
      simp only [sf_way, putAll, wx, wy, wz, stV, seval, IntWalk.iteOmega, IntWalk.toNatUp, reduceCtorEq]
      exact ret_f1 (by simp only [wx, wy, wz, stV, seval, IntWalk.iteOmega, IntWalk.toNatUp, reduceCtorEq])
    · have h2 : 2 ≤ n := by omega
      have k1 := split_lt h2
      have k2 := split_pos n
      have hd := half_c G n h2 hn
      by_cases hk : i < splitN n
      · have a1 := ih _ k1 i (by omega) hk
        have a3 := way_le (splitN n) i s
        rw [way_lo hs (by omega) hk, List.map_append]
        simp only [sf_way, putAll, wx, wy, wz, stV, seval, IntWalk.iteOmega, IntWalk.toNatUp, reduceCtorEq]
        refine st_call (hd) rfl (.inl rfl) ?_
        simp only [wx, wy, wz, stV, seval, IntWalk.iteOmega, IntWalk.toNatUp, reduceCtorEq]
        refine st_call (a1) rfl (.inl rfl) ?_
        simp only [srcV, wx, wy, wz, stV, seval, IntWalk.iteOmega, IntWalk.toNatUp, reduceCtorEq]
        exact ret_f1 (by simp only [wx, wy, wz, stV, seval, IntWalk.iteOmega, IntWalk.toNatUp, reduceCtorEq])
      · have a1 := ih (n - splitN n) (by omega) (i - splitN n) (by omega) (by omega)
        have a3 := way_le (n - splitN n) (i - splitN n) s
        have e1 : ((i - splitN n : Nat) : Int) = (i : Int) - (splitN n : Nat) := by omega
        have e2 : ((n - splitN n : Nat) : Int) = (n : Int) - (splitN n : Nat) := by omega
        rw [e1, e2] at a1
        rw [way_hi hs (by omega) hk, List.map_append]
        simp only [sf_way, putAll, wx, wy, wz, stV, seval, IntWalk.iteOmega, IntWalk.toNatUp, reduceCtorEq]
        refine st_call (hd) rfl (.inl rfl) ?_
        simp only [wx, wy, wz, stV, seval, IntWalk.iteOmega, IntWalk.toNatUp, reduceCtorEq]
        refine st_call (a1) rfl (.inl rfl) ?_
        simp only [srcV, wx, wy, wz, stV, seval, IntWalk.iteOmega, IntWalk.toNatUp, reduceCtorEq]
        exact ret_f1 (by simp only [wx, wy, wz, stV, seval, IntWalk.iteOmega, IntWalk.toNatUp, reduceCtorEq])
theorem way_c (G : Glob) (s : Nat) (hs : 1 ≤ s) (hs2 : s ≤ 65536) (n i : Nat) (hn : n ≤ 65536) (hi : i < n) : Den Tryd.prog G 68 [.int .i64 (n : Int), .int .i64 (i : Int), .int .i64 (s : Int)] (.w (.c (.d (.sl ((wayM n i s).map boD))))) := den_ro (way_f G s hs hs2 n i hn hi)
def sf_last : SFn := ⟨1, 7,
  .seq (.reg [⟨(some 2), .mv (.k (.c (.d (.int .i64 0)))), none⟩])
  (.seq (.reg [⟨(some 3), .mv (.t 0), none⟩,
    ⟨(some 4), .mv (.t 0), none⟩,
    ⟨(some 5), .un .neg (.t 4), none⟩,
    ⟨(some 6), .bin .and (.t 3) (.t 5), none⟩,
    ⟨(some 2), .mv (.t 6), none⟩])
  (.ret)),
  [(2, none)]⟩
theorem cf_last : compFn Tryd.prog { own := [], comp := [], frz := [], nils := [] } Tryd.f64 = some sf_last := by kernel_rfl
theorem last_c (G : Glob) (m : Nat) (h0 : 1 ≤ m) (h : m ≤ 1024) : Den Tryd.prog G 64 [.int .i64 (m : Int)] (.w (.c (.d (.int .i64 (lowN m : Nat))))) := by
  refine den_walk Tryd.func64 cf_last rfl rfl ?_
  have hb : bits .and .i64 (m : Int) (0 - (m : Int)) = (lowN m : Nat) := by rw [Int.zero_sub]; exact low_bits ⟨m, by omega⟩ h0
  simp only [sf_last, putAll, wx, wy, wz, stV, seval, IntWalk.iteOmega, IntWalk.toNatUp, reduceCtorEq, hb]
  exact ret_d1 (by simp only [wx, wy, wz, stV, seval, IntWalk.iteOmega, IntWalk.toNatUp, reduceCtorEq])
def grSt (c : List UInt8) (p : List (List UInt8)) (w : List Bool) (j : Nat) : St := ⟨ofL [(2, .w (.c (.d (.sl (w.map boD))))), (8, .w (.c (.d (.sl (((grF c p w j).1).map bD))))), (9, .w (.c (.d (.sl (((grF c p w j).2).map bD))))), (14, .w (.c (.d (sls p)))), (15, .w (.c (.d (.int .i64 (p.length : Int))))), (16, .w (.c (.d (.int .i64 (j : Int)))))], hL [], uL []⟩
theorem grF_big {c : List UInt8} (hc : c.length ≤ 1000000000) (p : List (List UInt8)) (w : List Bool) : ∀ j, (grF c p w j).1.length ≤ 1000000000 ∧ (grF c p w j).2.length ≤ 1000000000
  | 0 => ⟨hc, hc⟩
  | j + 1 => by
    have h1 := (grF_big hc p w j).1
    rw [grF]
    split
    · exact ⟨by rw [nodeM_len]; decide, by rw [nodeM_len]; decide⟩
    · exact ⟨h1, by rw [nodeM_len]; decide⟩
theorem getBo {w : List Bool} {j : Nat} (h : j < w.length) : w[j]? = some (w.getD j false) := by
  rw [List.getD_eq_getElem?_getD, List.getElem?_eq_getElem h]; rfl
def lp_grwn_0 : SCode :=
  .seq (.reg [⟨(some 17), .bin .lss (.t 16) (.t 15), none⟩])
  (.seq (.cond (.t 17) (.skip)
   (.exit 0))
  (.seq (.block 1 (.seq (.reg [⟨(some 18), .mv (.t 16), none⟩,
     ⟨(some 19), .idxSl 1 (.t 14) (.t 16), none⟩,
     ⟨(some 20), .load .sc (.t 19), none⟩,
     ⟨(some 10), .mv (.t 18), none⟩,
     ⟨(some 11), .mv (.t 20), none⟩])
   (.seq (.reg [⟨(some 21), .mv (.t 2), none⟩,
     ⟨(some 22), .mv (.t 10), none⟩,
     ⟨(some 23), .idxSl 1 (.t 21) (.t 22), none⟩,
     ⟨(some 24), .load .sc (.t 23), none⟩])
   (.cond (.t 24) (.reg [⟨(some 25), .mv (.t 11), none⟩,
      ⟨(some 26), .mv (.t 8), none⟩,
      ⟨(some 27), .call 105 [(.t 25), (.t 26)] none, none⟩,
      ⟨(some 28), .mv (.t 11), none⟩,
      ⟨(some 29), .mv (.t 9), none⟩,
      ⟨(some 30), .call 105 [(.t 28), (.t 29)] none, none⟩,
      ⟨(some 8), .mv (.t 27), none⟩,
      ⟨(some 9), .mv (.t 30), none⟩])
    (.reg [⟨(some 31), .mv (.t 9), none⟩,
      ⟨(some 32), .mv (.t 11), none⟩,
      ⟨(some 33), .call 105 [(.t 31), (.t 32)] none, none⟩,
      ⟨(some 9), .mv (.t 33), none⟩])))))
  (.reg [⟨(some 34), .bin .add (.t 16) (.k (.c (.d (.int .i64 1)))), none⟩,
    ⟨(some 16), .mv (.t 34), none⟩])))
def sf_grwn : SFn := ⟨3, 37,
  .seq (.reg [⟨(some 6), .mv (.k (.c .nil)), none⟩,
    ⟨(some 7), .mv (.k (.c .nil)), none⟩])
  (.seq (.reg [⟨(some 12), .mv (.t 0), none⟩,
    ⟨(some 13), .mv (.t 0), none⟩,
    ⟨(some 8), .mv (.t 12), none⟩,
    ⟨(some 9), .mv (.t 13), none⟩])
  (.seq (.seq (.reg [⟨(some 14), .mv (.t 1), none⟩,
    ⟨(some 15), .len (.t 14), none⟩,
    ⟨(some 16), .mv (.k (.c (.d (.int .i64 0)))), none⟩])
  (.block 0 (.loop lp_grwn_0)))
  (.seq (.reg [⟨(some 35), .mv (.t 8), none⟩,
    ⟨(some 36), .mv (.t 9), none⟩,
    ⟨(some 6), .mv (.t 35), none⟩,
    ⟨(some 7), .mv (.t 36), none⟩])
  (.ret)))),
  [(6, none), (7, none)]⟩
theorem cf_grwn : compFn Tryd.prog { own := [], comp := [], frz := [], nils := [] } Tryd.f69 = some sf_grwn := by kernel_rfl
set_option maxHeartbeats 3200000 in
theorem grwn_c (G : Glob) (hF : G.at 0 = some (.ra (firstK.map wD))) (hG : G.at 1 = some (.ra (constK.map wD))) (c : List UInt8) (p : List (List UInt8)) (w : List Bool) (hc : c.length ≤ 1000000000) (hp : p.length = w.length) (hw : w.length ≤ 65536) (hb : ∀ x ∈ p, x.length ≤ 1000000000) : Den Tryd.prog G 69 [.sl (c.map bD), sls p, .sl (w.map boD)] (.tup [.c (.d (.sl (((grF c p w w.length).1).map bD))), .c (.d (.sl (((grF c p w w.length).2).map bD)))]) := by
  refine den_walk Tryd.func69 cf_grwn rfl rfl ?_
  simp only [sf_grwn, putAll, wx, wy, wz, stV, seval, IntWalk.iteOmega, IntWalk.toNatUp, reduceCtorEq]
  refine loop_st (grSt c p w) (fun j => w.length - j) (fun j => j ≤ w.length) 0 (Nat.zero_le _) ?_ ?_
  · refine ent_l (fun i => i) ?_ ?_ rfl rfl <;> simp only [wx, wex, wez, stV, seval, IntWalk.iteOmega, IntWalk.toNatUp, reduceCtorEq, grF]
  · intro j hj
    obtain ⟨b1, b2⟩ := grF_big hc p w j
    by_cases hlt : j < w.length
    · have g1 := getLs (l := p) (j := j) (by omega)
      have g2 := getBo hlt
      have hx := hb _ (getLs_mem (l := p) (j := j) (by omega))
      cases hd : w.getD j false
      · have e : grF c p w (j + 1) = ((grF c p w j).1, nodeM (grF c p w j).2 (p.getD j [])) := by rw [grF, hd]; rfl
        rw [hd] at g2
        simp only [lp_grwn_0, grSt, wx, wy, wz, stV, seval, IntWalk.iteOmega, IntWalk.toNatUp, reduceCtorEq, get_map, g1, g2]
        refine st_call (node_c G hF hG (grF c p w j).2 (p.getD j []) b2 hx) rfl (.inl rfl) ?_
        simp only [wx, wy, wz, stV, seval, IntWalk.iteOmega, IntWalk.toNatUp, reduceCtorEq]
        refine lop_next (j + 1) (by omega) (by omega) (ent_l (fun i => i) ?_ ?_ rfl rfl) <;> simp only [wx, wex, wez, stV, seval, IntWalk.iteOmega, IntWalk.toNatUp, reduceCtorEq, e]
      · have e : grF c p w (j + 1) = (nodeM (p.getD j []) (grF c p w j).1, nodeM (p.getD j []) (grF c p w j).2) := by rw [grF, hd]; rfl
        rw [hd] at g2
        simp only [lp_grwn_0, grSt, wx, wy, wz, stV, seval, IntWalk.iteOmega, IntWalk.toNatUp, reduceCtorEq, get_map, g1, g2]
        refine st_call (node_c G hF hG (p.getD j []) (grF c p w j).1 hx b1) rfl (.inl rfl) ?_
        simp only [wx, wy, wz, stV, seval, IntWalk.iteOmega, IntWalk.toNatUp, reduceCtorEq]
        refine st_call (node_c G hF hG (p.getD j []) (grF c p w j).2 hx b2) rfl (.inl rfl) ?_
        simp only [wx, wy, wz, stV, seval, IntWalk.iteOmega, IntWalk.toNatUp, reduceCtorEq]
        refine lop_next (j + 1) (by omega) (by omega) (ent_l (fun i => i) ?_ ?_ rfl rfl) <;> simp only [wx, wex, wez, stV, seval, IntWalk.iteOmega, IntWalk.toNatUp, reduceCtorEq, e]
    · obtain rfl : j = w.length := by omega
      simp only [lp_grwn_0, grSt, wx, wy, wz, stV, seval, IntWalk.iteOmega, IntWalk.toNatUp, reduceCtorEq]
      exact ret_d2 (by simp only [wx, wy, wz, stV, seval, IntWalk.iteOmega, IntWalk.toNatUp, reduceCtorEq]) (by simp only [wx, wy, wz, stV, seval, IntWalk.iteOmega, IntWalk.toNatUp, reduceCtorEq])
end Go.Proofs.YtjgkchmdhicmpaaDoor
set_option linter.unusedVariables false
set_option linter.unusedSimpArgs false
namespace Go.Proofs.YtjgkchmdhicmpaaDoor
open Go.RowKit

def rootE (l : List (List UInt8)) : Int := if 1024 < l.length then 8 else 0
def rootV (l : List (List UInt8)) : List UInt8 := if 1024 < l.length then [] else rootM l
def pathE (l : List (List UInt8)) (i : Int) : Int := if 1024 < l.length then 8 else if i < 0 ∨ (l.length : Int) ≤ i then 4 else 0
def pathV (l : List (List UInt8)) (i : Int) : List (List UInt8) := if pathE l i = 0 then pathM l i.toNat else []
def consE (l : List (List UInt8)) (m : Int) : Int := if 1024 < l.length then 8 else if m < 1 ∨ (l.length : Int) < m then 4 else 0
def consV (l : List (List UInt8)) (m : Int) : List (List UInt8) := if consE l m = 0 then proofM m.toNat l true else []
def climbO (n i : Int) (p : List (List UInt8)) : Bool := decide (1 ≤ n ∧ n ≤ 1024 ∧ 0 ≤ i ∧ i < n ∧ p.length = depthM n.toNat i.toNat)
def climbV (n i : Int) (leaf : List UInt8) (p : List (List UInt8)) : List UInt8 := if climbO n i p = true then climbM n.toNat i.toNat leaf p else []
def checkB (root : List UInt8) (n i : Int) (leaf : List UInt8) (p : List (List UInt8)) : Bool := climbO n i p && (climbV n i leaf p == root)
def cgB (old : List UInt8) (m : Int) (now : List UInt8) (n : Int) (p : List (List UInt8)) : Bool :=
  decide (1 ≤ m ∧ m ≤ n ∧ n ≤ 1024) && (decide (p.length = plenM m.toNat n.toNat true) && ((grownM m.toNat n.toNat true old p).1 == old && (grownM m.toNat n.toNat true old p).2 == now))
def sf_root : SFn := ⟨1, 9,
  .seq (.reg [⟨(some 2), .mv (.k (.c .nil)), none⟩,
    ⟨(some 3), .mv (.k (.c (.d (.int .i64 0)))), none⟩])
  (.seq (.seq (.reg [⟨(some 4), .mv (.t 0), none⟩,
    ⟨(some 5), .len (.t 4), none⟩,
    ⟨(some 6), .bin .gtr (.t 5) (.k (.c (.d (.int .i64 1024)))), none⟩])
  (.cond (.t 6) (.seq (.reg [⟨(some 2), .mv (.k (.c .nil)), none⟩,
     ⟨(some 3), .mv (.k (.c (.d (.int .i64 8)))), none⟩])
   (.ret))
   (.skip)))
  (.seq (.reg [⟨(some 7), .mv (.t 0), none⟩,
    ⟨(some 8), .call 62 [(.t 7)] (some (0, 1)), none⟩,
    ⟨(some 2), .mv (.t 8), none⟩,
    ⟨(some 3), .mv (.k (.c (.d (.int .i64 0)))), none⟩])
  (.ret))),
  [(2, none), (3, none)]⟩
theorem cf_root : compFn Tryd.prog { own := [8], comp := [], frz := [], nils := [] } Tryd.f30 = some sf_root := by kernel_rfl
set_option maxHeartbeats 1600000 in
theorem root_f (G : Glob) (hF : G.at 0 = some (.ra (firstK.map wD))) (hG : G.at 1 = some (.ra (constK.map wD))) (l : List (List UInt8)) (hl : l.length ≤ 9223372036854775807) (hb : ∀ x ∈ l, x.length ≤ 1000000000) : Den Tryd.prog G 30 [sls l] (.tup [.c (.fr 1 ((rootV l).map bD)), .c (.d (.int .i64 (rootE l)))]) := by
  refine den_walk Tryd.func30 cf_root rfl rfl ?_
  unfold rootV rootE
  by_cases h : 1024 < l.length
  · rw [if_pos h, if_pos h]
    simp only [sf_root, putAll, wx, wy, wz, stV, seval, IntWalk.iteOmega, IntWalk.toNatUp, reduceCtorEq]
    exact ret_f2 (by simp only [wx, wy, wz, stV, seval, IntWalk.iteOmega, IntWalk.toNatUp, reduceCtorEq]) (by simp only [wx, wy, wz, stV, seval, IntWalk.iteOmega, IntWalk.toNatUp, reduceCtorEq])
  · rw [if_neg h, if_neg h]
    simp only [sf_root, putAll, wx, wy, wz, stV, seval, IntWalk.iteOmega, IntWalk.toNatUp, reduceCtorEq]
    refine st_call (rof_f G hF hG l.length l rfl (by omega) hb) rfl (.inl rfl) ?_
    simp only [wx, wy, wz, stV, seval, IntWalk.iteOmega, IntWalk.toNatUp, reduceCtorEq]
    exact ret_f2 (by simp only [wx, wy, wz, stV, seval, IntWalk.iteOmega, IntWalk.toNatUp, reduceCtorEq]) (by simp only [wx, wy, wz, stV, seval, IntWalk.iteOmega, IntWalk.toNatUp, reduceCtorEq])
theorem root_c (G : Glob) (hF : G.at 0 = some (.ra (firstK.map wD))) (hG : G.at 1 = some (.ra (constK.map wD))) (l : List (List UInt8)) (hl : l.length ≤ 9223372036854775807) (hb : ∀ x ∈ l, x.length ≤ 1000000000) : Den Tryd.prog G 30 [sls l] (.tup [.c (.d (.sl ((rootV l).map bD))), .c (.d (.int .i64 (rootE l)))]) := den_ro2 (root_f G hF hG l hl hb)
theorem den_ro2L {P : Program} {G : Glob} {F : FuncId} {args : List D} {l : List (List UInt8)} {y : D} (h : Den P G F args (.tup [.c (.fr 1 (l.map fun l => D.sl (l.map bD))), .c (.d y)])) : Den P G F args (.tup [.c (.d (sls l)), .c (.d y)]) := den_ro2 h
def sf_path : SFn := ⟨2, 20,
  .seq (.reg [⟨(some 4), .mv (.k (.c .nil)), none⟩,
    ⟨(some 5), .mv (.k (.c (.d (.int .i64 0)))), none⟩])
  (.seq (.seq (.reg [⟨(some 6), .mv (.t 0), none⟩,
    ⟨(some 7), .len (.t 6), none⟩,
    ⟨(some 8), .bin .gtr (.t 7) (.k (.c (.d (.int .i64 1024)))), none⟩])
  (.cond (.t 8) (.seq (.reg [⟨(some 4), .mv (.k (.c .nil)), none⟩,
     ⟨(some 5), .mv (.k (.c (.d (.int .i64 8)))), none⟩])
   (.ret))
   (.skip)))
  (.seq (.seq (.reg [⟨(some 9), .mv (.t 1), none⟩,
    ⟨(some 10), .bin .lss (.t 9) (.k (.c (.d (.int .i64 0)))), none⟩,
    ⟨(some 11), .mv (.t 10), none⟩,
    ⟨(some 12), .mv (.t 1), (some (11, false))⟩,
    ⟨(some 13), .mv (.t 0), (some (11, false))⟩,
    ⟨(some 14), .len (.t 13), (some (11, false))⟩,
    ⟨(some 15), .bin .geq (.t 12) (.t 14), (some (11, false))⟩,
    ⟨(some 16), .pick (.t 11) (.k (.c (.d (.bool true)))) (.t 15), none⟩])
  (.cond (.t 16) (.seq (.reg [⟨(some 4), .mv (.k (.c .nil)), none⟩,
     ⟨(some 5), .mv (.k (.c (.d (.int .i64 4)))), none⟩])
   (.ret))
   (.skip)))
  (.seq (.reg [⟨(some 17), .mv (.t 0), none⟩,
    ⟨(some 18), .mv (.t 1), none⟩,
    ⟨(some 19), .call 63 [(.t 17), (.t 18), (.k (.c (.d (.int .i64 1))))] (some (0, 1)), none⟩,
    ⟨(some 4), .mv (.t 19), none⟩,
    ⟨(some 5), .mv (.k (.c (.d (.int .i64 0)))), none⟩])
  (.ret)))),
  [(4, none), (5, none)]⟩
theorem cf_path : compFn Tryd.prog { own := [19], comp := [], frz := [], nils := [] } Tryd.f31 = some sf_path := by kernel_rfl
set_option maxHeartbeats 1600000 in
theorem path_f (G : Glob) (hF : G.at 0 = some (.ra (firstK.map wD))) (hG : G.at 1 = some (.ra (constK.map wD))) (l : List (List UInt8)) (i : Int) (hl : l.length ≤ 9223372036854775807) (hb : ∀ x ∈ l, x.length ≤ 1000000000) : Den Tryd.prog G 31 [sls l, .int .i64 i] (.tup [.c (.fr 1 ((pathV l i).map fun l => D.sl (l.map bD))), .c (.d (.int .i64 (pathE l i)))]) := by
  refine den_walk Tryd.func31 cf_path rfl rfl ?_
  by_cases h : 1024 < l.length
  · have hE : pathE l i = 8 := if_pos h
    have hV : pathV l i = [] := if_neg (by rw [hE]; decide)
    rw [hE, hV]
    simp only [sf_path, putAll, wx, wy, wz, stV, seval, IntWalk.iteOmega, IntWalk.toNatUp, reduceCtorEq]
    exact ret_f2 (by simp only [wx, wy, wz, stV, seval, IntWalk.iteOmega, IntWalk.toNatUp, reduceCtorEq]) (by simp only [wx, wy, wz, stV, seval, IntWalk.iteOmega, IntWalk.toNatUp, reduceCtorEq])
  · by_cases h1 : i < 0
    · have hE : pathE l i = 4 := by unfold pathE; rw [if_neg h, if_pos (.inl h1)]
      have hV : pathV l i = [] := if_neg (by rw [hE]; decide)
      rw [hE, hV]
      simp only [sf_path, putAll, wx, wy, wz, stV, seval, IntWalk.iteOmega, IntWalk.toNatUp, reduceCtorEq]
      exact ret_f2 (by simp only [wx, wy, wz, stV, seval, IntWalk.iteOmega, IntWalk.toNatUp, reduceCtorEq]) (by simp only [wx, wy, wz, stV, seval, IntWalk.iteOmega, IntWalk.toNatUp, reduceCtorEq])
    · by_cases h2 : (l.length : Int) ≤ i
      · have hE : pathE l i = 4 := by unfold pathE; rw [if_neg h, if_pos (.inr h2)]
        have hV : pathV l i = [] := if_neg (by rw [hE]; decide)
        rw [hE, hV]
        simp only [sf_path, putAll, wx, wy, wz, stV, seval, IntWalk.iteOmega, IntWalk.toNatUp, reduceCtorEq]
        exact ret_f2 (by simp only [wx, wy, wz, stV, seval, IntWalk.iteOmega, IntWalk.toNatUp, reduceCtorEq]) (by simp only [wx, wy, wz, stV, seval, IntWalk.iteOmega, IntWalk.toNatUp, reduceCtorEq])
      · have hE : pathE l i = 0 := by unfold pathE; rw [if_neg h, if_neg (by omega)]
        have hV : pathV l i = pathM l i.toNat := if_pos hE
        rw [hE, hV]
        obtain ⟨k, rfl⟩ := Int.eq_ofNat_of_zero_le (by omega : 0 ≤ i)
        have ho := oth_f G hF hG 1 (by decide) l.length l k rfl (by omega) (by omega) hb
        rw [oth_path _ _ _ rfl] at ho
        have e1 : ((k : Int).toNat) = k := rfl
        rw [e1]
        simp only [sf_path, putAll, wx, wy, wz, stV, seval, IntWalk.iteOmega, IntWalk.toNatUp, reduceCtorEq]
        refine st_call (ho) rfl (.inl rfl) ?_
        simp only [wx, wy, wz, stV, seval, IntWalk.iteOmega, IntWalk.toNatUp, reduceCtorEq]
        exact ret_f2 (by simp only [wx, wy, wz, stV, seval, IntWalk.iteOmega, IntWalk.toNatUp, reduceCtorEq]) (by simp only [wx, wy, wz, stV, seval, IntWalk.iteOmega, IntWalk.toNatUp, reduceCtorEq])
theorem path_c (G : Glob) (hF : G.at 0 = some (.ra (firstK.map wD))) (hG : G.at 1 = some (.ra (constK.map wD))) (l : List (List UInt8)) (i : Int) (hl : l.length ≤ 9223372036854775807) (hb : ∀ x ∈ l, x.length ≤ 1000000000) : Den Tryd.prog G 31 [sls l, .int .i64 i] (.tup [.c (.d (sls (pathV l i))), .c (.d (.int .i64 (pathE l i)))]) := den_ro2L (path_f G hF hG l i hl hb)
def clSt (t : List UInt8) (p : List (List UInt8)) (w : List Bool) (j : Nat) : St := ⟨ofL [(10, .w (.c (.d (.sl (w.map boD))))), (11, .w (.c (.d (.sl ((clF t p w j).map bD))))), (39, .w (.c (.d (sls p)))), (40, .w (.c (.d (.int .i64 (p.length : Int))))), (41, .w (.c (.d (.int .i64 (j : Int)))))], hL [], uL []⟩
theorem clF_big {t : List UInt8} (ht : t.length ≤ 1000000000) (p : List (List UInt8)) (w : List Bool) : ∀ j, (clF t p w j).length ≤ 1000000000
  | 0 => ht
  | j + 1 => by rw [clF]; split <;> (rw [nodeM_len]; decide)
def lp_clm_0 : SCode :=
  .seq (.reg [⟨(some 42), .bin .lss (.t 41) (.t 40), none⟩])
  (.seq (.cond (.t 42) (.skip)
   (.exit 0))
  (.seq (.block 1 (.seq (.reg [⟨(some 43), .mv (.t 41), none⟩,
     ⟨(some 44), .idxSl 1 (.t 39) (.t 41), none⟩,
     ⟨(some 45), .load .sc (.t 44), none⟩,
     ⟨(some 12), .mv (.t 43), none⟩,
     ⟨(some 13), .mv (.t 45), none⟩])
   (.seq (.reg [⟨(some 46), .mv (.t 10), none⟩,
     ⟨(some 47), .mv (.t 12), none⟩,
     ⟨(some 48), .idxSl 1 (.t 46) (.t 47), none⟩,
     ⟨(some 49), .load .sc (.t 48), none⟩])
   (.cond (.t 49) (.reg [⟨(some 50), .mv (.t 13), none⟩,
      ⟨(some 51), .mv (.t 11), none⟩,
      ⟨(some 52), .call 105 [(.t 50), (.t 51)] none, none⟩,
      ⟨(some 11), .mv (.t 52), none⟩])
    (.reg [⟨(some 53), .mv (.t 11), none⟩,
      ⟨(some 54), .mv (.t 13), none⟩,
      ⟨(some 55), .call 105 [(.t 53), (.t 54)] none, none⟩,
      ⟨(some 11), .mv (.t 55), none⟩])))))
  (.reg [⟨(some 56), .bin .add (.t 41) (.k (.c (.d (.int .i64 1)))), none⟩,
    ⟨(some 41), .mv (.t 56), none⟩])))
def sf_clm : SFn := ⟨4, 58,
  .seq (.reg [⟨(some 8), .mv (.k (.c .nil)), none⟩,
    ⟨(some 9), .mv (.k (.c (.d (.bool false)))), none⟩])
  (.seq (.seq (.reg [⟨(some 14), .mv (.t 0), none⟩,
    ⟨(some 15), .bin .lss (.t 14) (.k (.c (.d (.int .i64 1)))), none⟩,
    ⟨(some 16), .mv (.t 15), none⟩,
    ⟨(some 17), .mv (.t 0), (some (16, false))⟩,
    ⟨(some 18), .bin .gtr (.t 17) (.k (.c (.d (.int .i64 1024)))), (some (16, false))⟩,
    ⟨(some 19), .pick (.t 16) (.k (.c (.d (.bool true)))) (.t 18), none⟩,
    ⟨(some 20), .mv (.t 19), none⟩,
    ⟨(some 21), .mv (.t 1), (some (20, false))⟩,
    ⟨(some 22), .bin .lss (.t 21) (.k (.c (.d (.int .i64 0)))), (some (20, false))⟩,
    ⟨(some 23), .pick (.t 20) (.k (.c (.d (.bool true)))) (.t 22), none⟩,
    ⟨(some 24), .mv (.t 23), none⟩,
    ⟨(some 25), .mv (.t 1), (some (24, false))⟩,
    ⟨(some 26), .mv (.t 0), (some (24, false))⟩,
    ⟨(some 27), .bin .geq (.t 25) (.t 26), (some (24, false))⟩,
    ⟨(some 28), .pick (.t 24) (.k (.c (.d (.bool true)))) (.t 27), none⟩])
  (.cond (.t 28) (.seq (.reg [⟨(some 8), .mv (.k (.c .nil)), none⟩,
     ⟨(some 9), .mv (.k (.c (.d (.bool false)))), none⟩])
   (.ret))
   (.skip)))
  (.seq (.reg [⟨(some 29), .mv (.t 0), none⟩,
    ⟨(some 30), .mv (.t 1), none⟩,
    ⟨(some 31), .call 68 [(.t 29), (.t 30), (.k (.c (.d (.int .i64 1))))] none, none⟩,
    ⟨(some 10), .mv (.t 31), none⟩])
  (.seq (.seq (.reg [⟨(some 32), .mv (.t 3), none⟩,
    ⟨(some 33), .len (.t 32), none⟩,
    ⟨(some 34), .mv (.t 10), none⟩,
    ⟨(some 35), .len (.t 34), none⟩,
    ⟨(some 36), .bin .neq (.t 33) (.t 35), none⟩])
  (.cond (.t 36) (.seq (.reg [⟨(some 8), .mv (.k (.c .nil)), none⟩,
     ⟨(some 9), .mv (.k (.c (.d (.bool false)))), none⟩])
   (.ret))
   (.skip)))
  (.seq (.reg [⟨(some 37), .mv (.t 2), none⟩,
    ⟨(some 38), .call 103 [(.t 37)] none, none⟩,
    ⟨(some 11), .mv (.t 38), none⟩])
  (.seq (.seq (.reg [⟨(some 39), .mv (.t 3), none⟩,
    ⟨(some 40), .len (.t 39), none⟩,
    ⟨(some 41), .mv (.k (.c (.d (.int .i64 0)))), none⟩])
  (.block 0 (.loop lp_clm_0)))
  (.seq (.reg [⟨(some 57), .mv (.t 11), none⟩,
    ⟨(some 8), .mv (.t 57), none⟩,
    ⟨(some 9), .mv (.k (.c (.d (.bool true)))), none⟩])
  (.ret))))))),
  [(8, none), (9, none)]⟩
theorem cf_clm : compFn Tryd.prog { own := [], comp := [], frz := [], nils := [] } Tryd.f66 = some sf_clm := by kernel_rfl
set_option maxHeartbeats 3200000 in
theorem clm_c (G : Glob) (hF : G.at 0 = some (.ra (firstK.map wD))) (hG : G.at 1 = some (.ra (constK.map wD))) (n i : Int) (leaf : List UInt8) (p : List (List UInt8)) (hf : leaf.length ≤ 1000000000) (hp : p.length ≤ 9223372036854775807) (hb : ∀ x ∈ p, x.length ≤ 1000000000) : Den Tryd.prog G 66 [.int .i64 n, .int .i64 i, .sl (leaf.map bD), sls p] (.tup [.c (.d (.sl ((climbV n i leaf p).map bD))), .c (.d (.bool (climbO n i p)))]) := by
  refine den_walk Tryd.func66 cf_clm rfl rfl ?_
  by_cases hv : 1 ≤ n ∧ n ≤ 1024 ∧ 0 ≤ i ∧ i < n
  · obtain ⟨h1, h2, h3, h4⟩ := hv
    obtain ⟨n, rfl⟩ := Int.eq_ofNat_of_zero_le (by omega : 0 ≤ n)
    obtain ⟨i, rfl⟩ := Int.eq_ofNat_of_zero_le h3
    have hwy := way_c G 1 (by decide) (by decide) n i (by omega) (by omega)
    have hwl := way_len1 n i
    have hcl := climb_cl leaf p n i
    by_cases hd : p.length = depthM n i
    · have ho : climbO (n : Int) (i : Int) p = true := decide_eq_true ⟨h1, h2, h3, h4, hd⟩
      have hV : climbV (n : Int) (i : Int) leaf p = climbM n i leaf p := if_pos ho
      rw [ho, hV, hcl]
      rw [← hwl] at hd
      have hw : (wayM n i 1).length ≤ 1024 := by have := way_le n i 1; omega
      generalize wayM n i 1 = w at *
      simp only [sf_clm, putAll, wx, wy, wz, stV, seval, IntWalk.iteOmega, IntWalk.toNatUp, reduceCtorEq]
      refine st_call (hwy) rfl (.inl rfl) ?_
      simp only [wx, wy, wz, stV, seval, IntWalk.iteOmega, IntWalk.toNatUp, reduceCtorEq]
      refine st_call (leaf_c G hF hG leaf hf) rfl (.inl rfl) ?_
      simp only [wx, wy, wz, stV, seval, IntWalk.iteOmega, IntWalk.toNatUp, reduceCtorEq]
      refine loop_st (clSt (leafM leaf) p w) (fun j => w.length - j) (fun j => j ≤ w.length) 0 (Nat.zero_le _) ?_ ?_
      · refine ent_l (fun i => i) ?_ ?_ rfl rfl <;> simp only [wx, wex, wez, stV, seval, IntWalk.iteOmega, IntWalk.toNatUp, reduceCtorEq, clF]
      · intro j hj
        have b1 := clF_big (t := leafM leaf) (by rw [leafM_len]; decide) p w j
        by_cases hlt : j < w.length
        · have g1 := getLs (l := p) (j := j) (by omega)
          have g2 := getBo hlt
          have hx := hb _ (getLs_mem (l := p) (j := j) (by omega))
          cases hdj : w.getD j false
          · have e : clF (leafM leaf) p w (j + 1) = nodeM (clF (leafM leaf) p w j) (p.getD j []) := by rw [clF, hdj]; rfl
            rw [hdj] at g2
            simp only [lp_clm_0, clSt, wx, wy, wz, stV, seval, IntWalk.iteOmega, IntWalk.toNatUp, reduceCtorEq, get_map, g1, g2]
            refine st_call (node_c G hF hG (clF (leafM leaf) p w j) (p.getD j []) b1 hx) rfl (.inl rfl) ?_
            simp only [wx, wy, wz, stV, seval, IntWalk.iteOmega, IntWalk.toNatUp, reduceCtorEq]
            refine lop_next (j + 1) (by omega) (by omega) (ent_l (fun i => i) ?_ ?_ rfl rfl) <;> simp only [wx, wex, wez, stV, seval, IntWalk.iteOmega, IntWalk.toNatUp, reduceCtorEq, e]
          · have e : clF (leafM leaf) p w (j + 1) = nodeM (p.getD j []) (clF (leafM leaf) p w j) := by rw [clF, hdj]; rfl
            rw [hdj] at g2
            simp only [lp_clm_0, clSt, wx, wy, wz, stV, seval, IntWalk.iteOmega, IntWalk.toNatUp, reduceCtorEq, get_map, g1, g2]
            refine st_call (node_c G hF hG (p.getD j []) (clF (leafM leaf) p w j) hx b1) rfl (.inl rfl) ?_
            simp only [wx, wy, wz, stV, seval, IntWalk.iteOmega, IntWalk.toNatUp, reduceCtorEq]
            refine lop_next (j + 1) (by omega) (by omega) (ent_l (fun i => i) ?_ ?_ rfl rfl) <;> simp only [wx, wex, wez, stV, seval, IntWalk.iteOmega, IntWalk.toNatUp, reduceCtorEq, e]
        · obtain rfl : j = w.length := by omega
          simp only [lp_clm_0, clSt, wx, wy, wz, stV, seval, IntWalk.iteOmega, IntWalk.toNatUp, reduceCtorEq]
          exact ret_d2 (by simp only [wx, wy, wz, stV, seval, IntWalk.iteOmega, IntWalk.toNatUp, reduceCtorEq]) (by simp only [wx, wy, wz, stV, seval, IntWalk.iteOmega, IntWalk.toNatUp, reduceCtorEq])
    · have ho : climbO (n : Int) (i : Int) p = false := decide_eq_false (fun k => hd k.2.2.2.2)
      have hV : climbV (n : Int) (i : Int) leaf p = [] := if_neg (by rw [ho]; simp)
      rw [ho, hV]
      rw [← hwl] at hd
      have hw := way_le n i 1
      generalize wayM n i 1 = w at *
      simp only [sf_clm, putAll, wx, wy, wz, stV, seval, IntWalk.iteOmega, IntWalk.toNatUp, reduceCtorEq]
      refine st_call (hwy) rfl (.inl rfl) ?_
      simp only [wx, wy, wz, stV, seval, IntWalk.iteOmega, IntWalk.toNatUp, reduceCtorEq]
      exact ret_d2 (by simp only [wx, wy, wz, stV, seval, IntWalk.iteOmega, IntWalk.toNatUp, reduceCtorEq]) (by simp only [wx, wy, wz, stV, seval, IntWalk.iteOmega, IntWalk.toNatUp, reduceCtorEq])
  · have ho : climbO n i p = false := decide_eq_false (fun k => hv ⟨k.1, k.2.1, k.2.2.1, k.2.2.2.1⟩)
    have hV : climbV n i leaf p = [] := if_neg (by rw [ho]; simp)
    rw [ho, hV]
    by_cases h1 : n < 1
    · simp only [sf_clm, putAll, wx, wy, wz, stV, seval, IntWalk.iteOmega, IntWalk.toNatUp, reduceCtorEq]
      exact ret_d2 (by simp only [wx, wy, wz, stV, seval, IntWalk.iteOmega, IntWalk.toNatUp, reduceCtorEq]) (by simp only [wx, wy, wz, stV, seval, IntWalk.iteOmega, IntWalk.toNatUp, reduceCtorEq])
    · by_cases h2 : 1024 < n
      · simp only [sf_clm, putAll, wx, wy, wz, stV, seval, IntWalk.iteOmega, IntWalk.toNatUp, reduceCtorEq]
        exact ret_d2 (by simp only [wx, wy, wz, stV, seval, IntWalk.iteOmega, IntWalk.toNatUp, reduceCtorEq]) (by simp only [wx, wy, wz, stV, seval, IntWalk.iteOmega, IntWalk.toNatUp, reduceCtorEq])
      · by_cases h3 : i < 0
        · simp only [sf_clm, putAll, wx, wy, wz, stV, seval, IntWalk.iteOmega, IntWalk.toNatUp, reduceCtorEq]
          exact ret_d2 (by simp only [wx, wy, wz, stV, seval, IntWalk.iteOmega, IntWalk.toNatUp, reduceCtorEq]) (by simp only [wx, wy, wz, stV, seval, IntWalk.iteOmega, IntWalk.toNatUp, reduceCtorEq])
        · have h4 : n ≤ i := by omega
          simp only [sf_clm, putAll, wx, wy, wz, stV, seval, IntWalk.iteOmega, IntWalk.toNatUp, reduceCtorEq]
          exact ret_d2 (by simp only [wx, wy, wz, stV, seval, IntWalk.iteOmega, IntWalk.toNatUp, reduceCtorEq]) (by simp only [wx, wy, wz, stV, seval, IntWalk.iteOmega, IntWalk.toNatUp, reduceCtorEq])
theorem climbV_big (n i : Int) {leaf : List UInt8} (hf : leaf.length ≤ 1000000000) (p : List (List UInt8)) : (climbV n i leaf p).length ≤ 1000000000 := by
  unfold climbV
  split
  · rw [climb_cl]; exact clF_big (by rw [leafM_len]; decide) _ _ _
  · exact Nat.zero_le _
def sf_chkt : SFn := ⟨5, 27,
  .seq (.reg [⟨(some 10), .mv (.k (.c (.d (.bool false)))), none⟩])
  (.seq (.reg [⟨(some 14), .mv (.t 1), none⟩,
    ⟨(some 15), .mv (.t 2), none⟩,
    ⟨(some 16), .mv (.t 3), none⟩,
    ⟨(some 17), .mv (.t 4), none⟩,
    ⟨(some 18), .call 66 [(.t 14), (.t 15), (.t 16), (.t 17)] none, none⟩,
    ⟨(some 13), .mv (.t 18), none⟩,
    ⟨(some 19), .extract (.t 13) 0, none⟩,
    ⟨(some 20), .extract (.t 13) 1, none⟩,
    ⟨(some 11), .mv (.t 19), none⟩,
    ⟨(some 12), .mv (.t 20), none⟩])
  (.seq (.reg [⟨(some 21), .mv (.t 12), none⟩,
    ⟨(some 22), .mv (.t 21), none⟩,
    ⟨(some 23), .mv (.t 11), (some (22, true))⟩,
    ⟨(some 24), .mv (.t 0), (some (22, true))⟩,
    ⟨(some 25), .call 67 [(.t 23), (.t 24)] none, (some (22, true))⟩,
    ⟨(some 26), .pick (.t 22) (.t 25) (.k (.c (.d (.bool false)))), none⟩,
    ⟨(some 10), .mv (.t 26), none⟩])
  (.ret))),
  [(10, none)]⟩
theorem cf_chkt : compFn Tryd.prog { own := [], comp := [], frz := [], nils := [] } Tryd.f33 = some sf_chkt := by kernel_rfl
set_option maxHeartbeats 1600000 in
theorem chkt_c (G : Glob) (hF : G.at 0 = some (.ra (firstK.map wD))) (hG : G.at 1 = some (.ra (constK.map wD))) (r : List UInt8) (n i : Int) (leaf : List UInt8) (p : List (List UInt8)) (hf : leaf.length ≤ 1000000000) (hp : p.length ≤ 9223372036854775807) (hb : ∀ x ∈ p, x.length ≤ 1000000000) : Den Tryd.prog G 33 [.sl (r.map bD), .int .i64 n, .int .i64 i, .sl (leaf.map bD), sls p] (.w (.c (.d (.bool (checkB r n i leaf p))))) := by
  refine den_walk Tryd.func33 cf_chkt rfl rfl ?_
  have hc := clm_c G hF hG n i leaf p hf hp hb
  unfold checkB
  have hs := same_c G (climbV n i leaf p) r
  generalize climbV n i leaf p = v at *
  cases ho : climbO n i p
  · rw [ho] at hc
    simp only [sf_chkt, putAll, wx, wy, wz, stV, seval, IntWalk.iteOmega, IntWalk.toNatUp, reduceCtorEq]
    refine st_call (hc) rfl (.inl rfl) ?_
    simp only [wx, wy, wz, stV, seval, IntWalk.iteOmega, IntWalk.toNatUp, reduceCtorEq]
    exact ret_d1 (by simp only [wx, wy, wz, stV, seval, IntWalk.iteOmega, IntWalk.toNatUp, reduceCtorEq, Bool.false_and])
  · rw [ho] at hc
    simp only [sf_chkt, putAll, wx, wy, wz, stV, seval, IntWalk.iteOmega, IntWalk.toNatUp, reduceCtorEq]
    refine st_call (hc) rfl (.inl rfl) ?_
    simp only [wx, wy, wz, stV, seval, IntWalk.iteOmega, IntWalk.toNatUp, reduceCtorEq]
    refine st_call (hs) rfl (.inl rfl) ?_
    simp only [wx, wy, wz, stV, seval, IntWalk.iteOmega, IntWalk.toNatUp, reduceCtorEq]
    exact ret_d1 (by simp only [wx, wy, wz, stV, seval, IntWalk.iteOmega, IntWalk.toNatUp, reduceCtorEq])
def sf_cons : SFn := ⟨2, 45,
  .seq (.reg [⟨(some 4), .mv (.k (.c .nil)), none⟩,
    ⟨(some 5), .mv (.k (.c (.d (.int .i64 0)))), none⟩])
  (.seq (.seq (.reg [⟨(some 8), .mv (.t 0), none⟩,
    ⟨(some 9), .len (.t 8), none⟩,
    ⟨(some 10), .bin .gtr (.t 9) (.k (.c (.d (.int .i64 1024)))), none⟩])
  (.cond (.t 10) (.seq (.reg [⟨(some 4), .mv (.k (.c .nil)), none⟩,
     ⟨(some 5), .mv (.k (.c (.d (.int .i64 8)))), none⟩])
   (.ret))
   (.skip)))
  (.seq (.seq (.reg [⟨(some 11), .mv (.t 1), none⟩,
    ⟨(some 12), .bin .lss (.t 11) (.k (.c (.d (.int .i64 1)))), none⟩,
    ⟨(some 13), .mv (.t 12), none⟩,
    ⟨(some 14), .mv (.t 1), (some (13, false))⟩,
    ⟨(some 15), .mv (.t 0), (some (13, false))⟩,
    ⟨(some 16), .len (.t 15), (some (13, false))⟩,
    ⟨(some 17), .bin .gtr (.t 14) (.t 16), (some (13, false))⟩,
    ⟨(some 18), .pick (.t 13) (.k (.c (.d (.bool true)))) (.t 17), none⟩])
  (.cond (.t 18) (.seq (.reg [⟨(some 4), .mv (.k (.c .nil)), none⟩,
     ⟨(some 5), .mv (.k (.c (.d (.int .i64 4)))), none⟩])
   (.ret))
   (.skip)))
  (.seq (.seq (.reg [⟨(some 19), .mv (.t 1), none⟩,
    ⟨(some 20), .mv (.t 0), none⟩,
    ⟨(some 21), .len (.t 20), none⟩,
    ⟨(some 22), .bin .eql (.t 19) (.t 21), none⟩])
  (.cond (.t 22) (.seq (.reg [⟨(some 4), .mv (.k (.c .nil)), none⟩,
     ⟨(some 5), .mv (.k (.c (.d (.int .i64 0)))), none⟩])
   (.ret))
   (.skip)))
  (.seq (.reg [⟨(some 23), .mv (.t 1), none⟩,
    ⟨(some 24), .call 64 [(.t 23)] none, none⟩,
    ⟨(some 6), .mv (.t 24), none⟩])
  (.seq (.reg [⟨(some 25), .mv (.t 0), none⟩,
    ⟨(some 26), .mv (.t 1), none⟩,
    ⟨(some 27), .bin .sub (.t 26) (.k (.c (.d (.int .i64 1)))), none⟩,
    ⟨(some 28), .mv (.t 6), none⟩,
    ⟨(some 29), .call 63 [(.t 25), (.t 27), (.t 28)] (some (0, 1)), none⟩,
    ⟨(some 7), .mv (.t 29), none⟩])
  (.seq (.seq (.reg [⟨(some 30), .mv (.t 6), none⟩,
    ⟨(some 31), .mv (.t 1), none⟩,
    ⟨(some 32), .bin .eql (.t 30) (.t 31), none⟩])
  (.cond (.t 32) (.seq (.reg [⟨(some 33), .mv (.t 7), none⟩,
     ⟨(some 4), .mv (.t 33), none⟩,
     ⟨(some 5), .mv (.k (.c (.d (.int .i64 0)))), none⟩])
   (.ret))
   (.skip)))
  (.seq (.reg [⟨(some 34), .mv (.t 0), none⟩,
    ⟨(some 35), .mv (.t 1), none⟩,
    ⟨(some 36), .mv (.t 6), none⟩,
    ⟨(some 37), .bin .sub (.t 35) (.t 36), none⟩,
    ⟨(some 38), .mv (.t 1), none⟩,
    ⟨(some 39), .slice 1 (.t 34) (some (.t 37)) (some (.t 38)) none, none⟩,
    ⟨(some 40), .call 62 [(.t 39)] none, none⟩,
    ⟨(some 41), .bldSl false 1 1 (.sl []) [(0, (.t 40))], none⟩,
    ⟨(some 42), .mv (.t 7), none⟩,
    ⟨(some 43), .bldFz 2 1 (.sl []) [(0, (.t 41)), (1, (.t 42))], none⟩,
    ⟨(some 44), .call 65 [(.t 43)] (some (0, 1)), none⟩,
    ⟨(some 4), .mv (.t 44), none⟩,
    ⟨(some 5), .mv (.k (.c (.d (.int .i64 0)))), none⟩])
  (.ret)))))))),
  [(4, none), (5, none)]⟩
theorem cf_cons : compFn Tryd.prog { own := [29, 44], comp := [], frz := [43], nils := [] } Tryd.f32 = some sf_cons := by kernel_rfl
set_option maxHeartbeats 3200000 in
theorem cons_f (G : Glob) (hF : G.at 0 = some (.ra (firstK.map wD))) (hG : G.at 1 = some (.ra (constK.map wD))) (l : List (List UInt8)) (m : Int) (hl : l.length ≤ 9223372036854775807) (hb : ∀ x ∈ l, x.length ≤ 1000000000) : Den Tryd.prog G 32 [sls l, .int .i64 m] (.tup [.c (.fr 1 ((consV l m).map fun l => D.sl (l.map bD))), .c (.d (.int .i64 (consE l m)))]) := by
  refine den_walk Tryd.func32 cf_cons rfl rfl ?_
  by_cases h : 1024 < l.length
  · have hE : consE l m = 8 := if_pos h
    have hV : consV l m = [] := if_neg (by rw [hE]; decide)
    rw [hE, hV]
    simp only [sf_cons, putAll, wx, wy, wz, stV, seval, IntWalk.iteOmega, IntWalk.toNatUp, reduceCtorEq]
    exact ret_f2 (by simp only [wx, wy, wz, stV, seval, IntWalk.iteOmega, IntWalk.toNatUp, reduceCtorEq]) (by simp only [wx, wy, wz, stV, seval, IntWalk.iteOmega, IntWalk.toNatUp, reduceCtorEq])
  · by_cases h1 : m < 1
    · have hE : consE l m = 4 := by unfold consE; rw [if_neg h, if_pos (.inl h1)]
      have hV : consV l m = [] := if_neg (by rw [hE]; decide)
      rw [hE, hV]
      simp only [sf_cons, putAll, wx, wy, wz, stV, seval, IntWalk.iteOmega, IntWalk.toNatUp, reduceCtorEq]
      exact ret_f2 (by simp only [wx, wy, wz, stV, seval, IntWalk.iteOmega, IntWalk.toNatUp, reduceCtorEq]) (by simp only [wx, wy, wz, stV, seval, IntWalk.iteOmega, IntWalk.toNatUp, reduceCtorEq])
    · by_cases h2 : (l.length : Int) < m
      · have hE : consE l m = 4 := by unfold consE; rw [if_neg h, if_pos (.inr h2)]
        have hV : consV l m = [] := if_neg (by rw [hE]; decide)
        rw [hE, hV]
        simp only [sf_cons, putAll, wx, wy, wz, stV, seval, IntWalk.iteOmega, IntWalk.toNatUp, reduceCtorEq]
        exact ret_f2 (by simp only [wx, wy, wz, stV, seval, IntWalk.iteOmega, IntWalk.toNatUp, reduceCtorEq]) (by simp only [wx, wy, wz, stV, seval, IntWalk.iteOmega, IntWalk.toNatUp, reduceCtorEq])
      · have hE : consE l m = 0 := by unfold consE; rw [if_neg h, if_neg (by omega)]
        have hV : consV l m = proofM m.toNat l true := if_pos hE
        rw [hE, hV]
        obtain ⟨m, rfl⟩ := Int.eq_ofNat_of_zero_le (by omega : 0 ≤ m)
        have e0 : ((m : Int).toNat) = m := rfl
        rw [e0]
        by_cases h3 : m = l.length
        · rw [proof_all h3]
          simp only [sf_cons, putAll, wx, wy, wz, stV, seval, IntWalk.iteOmega, IntWalk.toNatUp, reduceCtorEq]
          exact ret_f2 (by simp only [wx, wy, wz, stV, seval, IntWalk.iteOmega, IntWalk.toNatUp, reduceCtorEq]) (by simp only [wx, wy, wz, stV, seval, IntWalk.iteOmega, IntWalk.toNatUp, reduceCtorEq])
        · have hla := last_c G m (by omega) (by omega)
          have hpr := proof_oth l.length l m true rfl (by omega) (by omega) (.inl (by omega))
          obtain ⟨q1, q2⟩ := low_le (m := m) (by omega)
          have ho := oth_f G hF hG (lowN m) q1 l.length l (m - 1) rfl (by omega) (by omega) hb
          have hol := oth_le l.length l (m - 1) (lowN m) rfl
          have e1 : ((m - 1 : Nat) : Int) = (m : Int) - 1 := by omega
          rw [e1] at ho
          by_cases h4 : lowN m = m
          · rw [if_pos ⟨rfl, h4⟩] at hpr
            rw [hpr]
            have h4' : ((lowN m : Nat) : Int) = (m : Int) := by omega
            simp only [sf_cons, putAll, wx, wy, wz, stV, seval, IntWalk.iteOmega, IntWalk.toNatUp, reduceCtorEq]
            refine st_call (hla) rfl (.inl rfl) ?_
            simp only [wx, wy, wz, stV, seval, IntWalk.iteOmega, IntWalk.toNatUp, reduceCtorEq]
            refine st_call (ho) rfl (.inl rfl) ?_
            simp only [wx, wy, wz, stV, seval, IntWalk.iteOmega, IntWalk.toNatUp, reduceCtorEq]
            exact ret_f2 (by simp only [wx, wy, wz, stV, seval, IntWalk.iteOmega, IntWalk.toNatUp, reduceCtorEq]) (by simp only [wx, wy, wz, stV, seval, IntWalk.iteOmega, IntWalk.toNatUp, reduceCtorEq])
          · rw [if_neg (fun k => h4 k.2)] at hpr
            rw [hpr]
            have ht : (lastT l m).length ≤ 1024 := by unfold lastT; rw [List.length_take, List.length_drop]; omega
            have hro := rof_c G hF hG (lastT l m) (by omega) (fun x hx => hb x (List.mem_of_mem_drop (List.mem_of_mem_take hx)))
            have e2 : ((m : Int) - (lowN m : Int)).toNat = m - lowN m := by omega
            have e3 : (l.drop (m - lowN m)).take (m - (m - lowN m)) = lastT l m := by unfold lastT; rw [show m - (m - lowN m) = lowN m by omega]
            have hcc := conc_f G [[rootM (lastT l m)], othM l (m - 1) (lowN m)] (by simp) (by simp; omega)
            have hfl : [[rootM (lastT l m)], othM l (m - 1) (lowN m)].flatten = rootM (lastT l m) :: othM l (m - 1) (lowN m) := by simp
            rw [hfl] at hcc
            simp only [sf_cons, putAll, wx, wy, wz, stV, seval, IntWalk.iteOmega, IntWalk.toNatUp, reduceCtorEq]
            refine st_call (hla) rfl (.inl rfl) ?_
            simp only [wx, wy, wz, stV, seval, IntWalk.iteOmega, IntWalk.toNatUp, reduceCtorEq]
            refine st_call (ho) rfl (.inl rfl) ?_
            simp only [e2, e3, allSz_ls, wx, wy, wz, stV, seval, IntWalk.iteOmega, IntWalk.toNatUp, reduceCtorEq]
            refine st_call (hro) rfl (.inl rfl) ?_
            simp only [allSz_ls, wx, wy, wz, stV, seval, IntWalk.iteOmega, IntWalk.toNatUp, reduceCtorEq]
            refine st_call (hcc) rfl (.inl rfl) ?_
            simp only [wx, wy, wz, stV, seval, IntWalk.iteOmega, IntWalk.toNatUp, reduceCtorEq]
            exact ret_f2 (by simp only [wx, wy, wz, stV, seval, IntWalk.iteOmega, IntWalk.toNatUp, reduceCtorEq]) (by simp only [wx, wy, wz, stV, seval, IntWalk.iteOmega, IntWalk.toNatUp, reduceCtorEq])
theorem cons_c (G : Glob) (hF : G.at 0 = some (.ra (firstK.map wD))) (hG : G.at 1 = some (.ra (constK.map wD))) (l : List (List UInt8)) (m : Int) (hl : l.length ≤ 9223372036854775807) (hb : ∀ x ∈ l, x.length ≤ 1000000000) : Den Tryd.prog G 32 [sls l, .int .i64 m] (.tup [.c (.d (sls (consV l m))), .c (.d (.int .i64 (consE l m)))]) := den_ro2L (cons_f G hF hG l m hl hb)
def sf_chkg : SFn := ⟨5, 76,
  .seq (.reg [⟨(some 10), .mv (.k (.c (.d (.bool false)))), none⟩])
  (.seq (.seq (.reg [⟨(some 15), .mv (.t 1), none⟩,
    ⟨(some 16), .bin .lss (.t 15) (.k (.c (.d (.int .i64 1)))), none⟩,
    ⟨(some 17), .mv (.t 16), none⟩,
    ⟨(some 18), .mv (.t 1), (some (17, false))⟩,
    ⟨(some 19), .mv (.t 3), (some (17, false))⟩,
    ⟨(some 20), .bin .gtr (.t 18) (.t 19), (some (17, false))⟩,
    ⟨(some 21), .pick (.t 17) (.k (.c (.d (.bool true)))) (.t 20), none⟩,
    ⟨(some 22), .mv (.t 21), none⟩,
    ⟨(some 23), .mv (.t 3), (some (22, false))⟩,
    ⟨(some 24), .bin .gtr (.t 23) (.k (.c (.d (.int .i64 1024)))), (some (22, false))⟩,
    ⟨(some 25), .pick (.t 22) (.k (.c (.d (.bool true)))) (.t 24), none⟩])
  (.cond (.t 25) (.seq (.reg [⟨(some 10), .mv (.k (.c (.d (.bool false)))), none⟩])
   (.ret))
   (.skip)))
  (.seq (.seq (.reg [⟨(some 26), .mv (.t 1), none⟩,
    ⟨(some 27), .mv (.t 3), none⟩,
    ⟨(some 28), .bin .eql (.t 26) (.t 27), none⟩])
  (.cond (.t 28) (.seq (.reg [⟨(some 29), .mv (.t 4), none⟩,
     ⟨(some 30), .len (.t 29), none⟩,
     ⟨(some 31), .bin .eql (.t 30) (.k (.c (.d (.int .i64 0)))), none⟩,
     ⟨(some 32), .mv (.t 31), none⟩,
     ⟨(some 33), .mv (.t 0), (some (32, true))⟩,
     ⟨(some 34), .mv (.t 2), (some (32, true))⟩,
     ⟨(some 35), .call 67 [(.t 33), (.t 34)] none, (some (32, true))⟩,
     ⟨(some 36), .pick (.t 32) (.t 35) (.k (.c (.d (.bool false)))), none⟩,
     ⟨(some 10), .mv (.t 36), none⟩])
   (.ret))
   (.skip)))
  (.seq (.reg [⟨(some 37), .mv (.t 1), none⟩,
    ⟨(some 38), .call 64 [(.t 37)] none, none⟩,
    ⟨(some 11), .mv (.t 38), none⟩])
  (.seq (.seq (.reg [⟨(some 39), .mv (.t 11), none⟩,
    ⟨(some 40), .mv (.t 1), none⟩,
    ⟨(some 41), .bin .eql (.t 39) (.t 40), none⟩])
  (.cond (.t 41) (.reg [⟨(some 42), .mv (.t 0), none⟩,
     ⟨(some 43), .bldSl false 1 1 (.sl []) [(0, (.t 42))], none⟩,
     ⟨(some 44), .mv (.t 4), none⟩,
     ⟨(some 45), .bldSl false 2 1 (.sl []) [(0, (.t 43)), (1, (.t 44))], none⟩,
     ⟨(some 46), .call 65 [(.t 45)] none, none⟩,
     ⟨(some 4), .mv (.t 46), none⟩])
   (.skip)))
  (.seq (.reg [⟨(some 47), .mv (.t 3), none⟩,
    ⟨(some 48), .mv (.t 1), none⟩,
    ⟨(some 49), .bin .sub (.t 48) (.k (.c (.d (.int .i64 1)))), none⟩,
    ⟨(some 50), .mv (.t 11), none⟩,
    ⟨(some 51), .call 68 [(.t 47), (.t 49), (.t 50)] none, none⟩,
    ⟨(some 12), .mv (.t 51), none⟩])
  (.seq (.seq (.reg [⟨(some 52), .mv (.t 4), none⟩,
    ⟨(some 53), .len (.t 52), none⟩,
    ⟨(some 54), .mv (.t 12), none⟩,
    ⟨(some 55), .len (.t 54), none⟩,
    ⟨(some 56), .bin .add (.t 55) (.k (.c (.d (.int .i64 1)))), none⟩,
    ⟨(some 57), .bin .neq (.t 53) (.t 56), none⟩])
  (.cond (.t 57) (.seq (.reg [⟨(some 10), .mv (.k (.c (.d (.bool false)))), none⟩])
   (.ret))
   (.skip)))
  (.seq (.reg [⟨(some 59), .mv (.t 4), none⟩,
    ⟨(some 60), .idxSl 1 (.t 59) (.k (.c (.d (.int .i64 0)))), none⟩,
    ⟨(some 61), .load .sc (.t 60), none⟩,
    ⟨(some 62), .mv (.t 4), none⟩,
    ⟨(some 63), .slice 1 (.t 62) (some (.k (.c (.d (.int .i64 1))))) none none, none⟩,
    ⟨(some 64), .mv (.t 12), none⟩,
    ⟨(some 65), .call 69 [(.t 61), (.t 63), (.t 64)] none, none⟩,
    ⟨(some 58), .mv (.t 65), none⟩,
    ⟨(some 66), .extract (.t 58) 0, none⟩,
    ⟨(some 67), .extract (.t 58) 1, none⟩,
    ⟨(some 13), .mv (.t 66), none⟩,
    ⟨(some 14), .mv (.t 67), none⟩])
  (.seq (.reg [⟨(some 68), .mv (.t 13), none⟩,
    ⟨(some 69), .mv (.t 0), none⟩,
    ⟨(some 70), .call 67 [(.t 68), (.t 69)] none, none⟩,
    ⟨(some 71), .mv (.t 70), none⟩,
    ⟨(some 72), .mv (.t 14), (some (71, true))⟩,
    ⟨(some 73), .mv (.t 2), (some (71, true))⟩,
    ⟨(some 74), .call 67 [(.t 72), (.t 73)] none, (some (71, true))⟩,
    ⟨(some 75), .pick (.t 71) (.t 74) (.k (.c (.d (.bool false)))), none⟩,
    ⟨(some 10), .mv (.t 75), none⟩])
  (.ret))))))))),
  [(10, none)]⟩
theorem cf_chkg : compFn Tryd.prog { own := [], comp := [], frz := [], nils := [] } Tryd.f34 = some sf_chkg := by kernel_rfl
set_option maxHeartbeats 3200000 in
theorem chkg_c (G : Glob) (hF : G.at 0 = some (.ra (firstK.map wD))) (hG : G.at 1 = some (.ra (constK.map wD))) (old : List UInt8) (m : Int) (now : List UInt8) (n : Int) (p : List (List UInt8)) (ho : old.length ≤ 1000000000) (hp : p.length ≤ 100000000) (hb : ∀ x ∈ p, x.length ≤ 1000000000) : Den Tryd.prog G 34 [.sl (old.map bD), .int .i64 m, .sl (now.map bD), .int .i64 n, sls p] (.w (.c (.d (.bool (cgB old m now n p))))) := by
  refine den_walk Tryd.func34 cf_chkg rfl rfl ?_
  unfold cgB
  by_cases hv : 1 ≤ m ∧ m ≤ n ∧ n ≤ 1024
  · obtain ⟨h1, h2, h3⟩ := hv
    have hd : decide (1 ≤ m ∧ m ≤ n ∧ n ≤ 1024) = true := decide_eq_true ⟨h1, h2, h3⟩
    rw [hd, Bool.true_and]
    obtain ⟨n, rfl⟩ := Int.eq_ofNat_of_zero_le (by omega : 0 ≤ n)
    obtain ⟨m, rfl⟩ := Int.eq_ofNat_of_zero_le (by omega : 0 ≤ m)
    have e0 : ((m : Int).toNat) = m := rfl
    have e1 : ((n : Int).toNat) = n := rfl
    rw [e0, e1]
    by_cases hmn : m = n
    · subst hmn
      rw [plen_all rfl, grown_all rfl]
      have hs := same_c G old now
      by_cases h0 : p.length = 0
      · have hd0 : decide (p.length = if true = true then 0 else 1) = true := decide_eq_true h0
        rw [hd0]
        have hoo : (old == old) = true := by simp
        simp only [if_true, hoo, Bool.true_and]
        simp only [sf_chkg, putAll, wx, wy, wz, stV, seval, IntWalk.iteOmega, IntWalk.toNatUp, reduceCtorEq, h0]
        refine st_call (hs) rfl (.inl rfl) ?_
        simp only [wx, wy, wz, stV, seval, IntWalk.iteOmega, IntWalk.toNatUp, reduceCtorEq]
        exact ret_d1 (by simp only [wx, wy, wz, stV, seval, IntWalk.iteOmega, IntWalk.toNatUp, reduceCtorEq])
      · have hd0 : decide (p.length = if true = true then 0 else 1) = false := decide_eq_false h0
        rw [hd0, Bool.false_and]
        simp only [sf_chkg, putAll, wx, wy, wz, stV, seval, IntWalk.iteOmega, IntWalk.toNatUp, reduceCtorEq]
        exact ret_d1 (by simp only [wx, wy, wz, stV, seval, IntWalk.iteOmega, IntWalk.toNatUp, reduceCtorEq])
    · have hla := last_c G m (by omega) (by omega)
      obtain ⟨q1, q2⟩ := low_le (m := m) (by omega)
      obtain ⟨k1, k2⟩ := grown_gr old p n m true (by omega) (by omega) (.inl (by omega))
      have hwy := way_c G (lowN m) q1 (by omega) n (m - 1) (by omega) (by omega)
      have hwl := way_le n (m - 1) (lowN m)
      have e2 : ((m - 1 : Nat) : Int) = (m : Int) - 1 := by omega
      rw [e2] at hwy
      by_cases h4 : lowN m = m
      · obtain ⟨k3, k4⟩ := k1 ⟨rfl, h4⟩
        rw [k3, k4]
        have h4' : ((lowN m : Nat) : Int) = (m : Int) := by omega
        have hcc := conc_c G [[old], p] (by simp) (by simp; omega)
        have hfl : [[old], p].flatten = old :: p := by simp
        rw [hfl] at hcc
        have g0 : (old :: p)[0]? = some old := rfl
        have d1 : ((old :: p).drop 1).take (p.length + 1 - 1) = p := by simp
        generalize wayM n (m - 1) (lowN m) = w at *
        by_cases h5 : p.length = w.length
        · rw [decide_eq_true h5, Bool.true_and]
          have hgr := grwn_c G hF hG old p w ho h5 (by omega) hb
          generalize (grF old p w w.length).1 = ra at *
          generalize (grF old p w w.length).2 = rb at *
          have s1 := same_c G ra old
          have s2 := same_c G rb now
          cases hq : ra == old
          · rw [hq] at s1
            rw [Bool.false_and]
            simp only [sf_chkg, putAll, wx, wy, wz, stV, seval, IntWalk.iteOmega, IntWalk.toNatUp, reduceCtorEq]
            refine st_call (hla) rfl (.inl rfl) ?_
            simp only [wx, wy, wz, stV, seval, IntWalk.iteOmega, IntWalk.toNatUp, reduceCtorEq]
            refine st_call (hcc) rfl (.inl rfl) ?_
            simp only [List.length_cons, wx, wy, wz, stV, seval, IntWalk.iteOmega, IntWalk.toNatUp, reduceCtorEq]
            refine st_call (hwy) rfl (.inl rfl) ?_
            simp only [List.length_cons, get_map, g0, d1, allSz_ls, wx, wy, wz, stV, seval, IntWalk.iteOmega, IntWalk.toNatUp, reduceCtorEq]
            refine st_call (hgr) rfl (.inl rfl) ?_
            simp only [wx, wy, wz, stV, seval, IntWalk.iteOmega, IntWalk.toNatUp, reduceCtorEq]
            refine st_call (s1) rfl (.inl rfl) ?_
            simp only [wx, wy, wz, stV, seval, IntWalk.iteOmega, IntWalk.toNatUp, reduceCtorEq]
            exact ret_d1 (by simp only [wx, wy, wz, stV, seval, IntWalk.iteOmega, IntWalk.toNatUp, reduceCtorEq])
          · rw [hq] at s1
            rw [Bool.true_and]
            simp only [sf_chkg, putAll, wx, wy, wz, stV, seval, IntWalk.iteOmega, IntWalk.toNatUp, reduceCtorEq]
            refine st_call (hla) rfl (.inl rfl) ?_
            simp only [wx, wy, wz, stV, seval, IntWalk.iteOmega, IntWalk.toNatUp, reduceCtorEq]
            refine st_call (hcc) rfl (.inl rfl) ?_
            simp only [List.length_cons, wx, wy, wz, stV, seval, IntWalk.iteOmega, IntWalk.toNatUp, reduceCtorEq]
            refine st_call (hwy) rfl (.inl rfl) ?_
            simp only [List.length_cons, get_map, g0, d1, allSz_ls, wx, wy, wz, stV, seval, IntWalk.iteOmega, IntWalk.toNatUp, reduceCtorEq]
            refine st_call (hgr) rfl (.inl rfl) ?_
            simp only [wx, wy, wz, stV, seval, IntWalk.iteOmega, IntWalk.toNatUp, reduceCtorEq]
            refine st_call (s1) rfl (.inl rfl) ?_
            simp only [wx, wy, wz, stV, seval, IntWalk.iteOmega, IntWalk.toNatUp, reduceCtorEq]
            refine st_call (s2) rfl (.inl rfl) ?_
            simp only [wx, wy, wz, stV, seval, IntWalk.iteOmega, IntWalk.toNatUp, reduceCtorEq]
            exact ret_d1 (by simp only [wx, wy, wz, stV, seval, IntWalk.iteOmega, IntWalk.toNatUp, reduceCtorEq])
        · rw [decide_eq_false h5, Bool.false_and]
          simp only [sf_chkg, putAll, wx, wy, wz, stV, seval, IntWalk.iteOmega, IntWalk.toNatUp, reduceCtorEq]
          refine st_call (hla) rfl (.inl rfl) ?_
          simp only [wx, wy, wz, stV, seval, IntWalk.iteOmega, IntWalk.toNatUp, reduceCtorEq]
          refine st_call (hcc) rfl (.inl rfl) ?_
          simp only [List.length_cons, wx, wy, wz, stV, seval, IntWalk.iteOmega, IntWalk.toNatUp, reduceCtorEq]
          refine st_call (hwy) rfl (.inl rfl) ?_
          simp only [List.length_cons, wx, wy, wz, stV, seval, IntWalk.iteOmega, IntWalk.toNatUp, reduceCtorEq]
          exact ret_d1 (by simp only [wx, wy, wz, stV, seval, IntWalk.iteOmega, IntWalk.toNatUp, reduceCtorEq])
      · obtain ⟨k3, k4⟩ := k2 (fun k => h4 k.2)
        rw [k3, k4]
        generalize wayM n (m - 1) (lowN m) = w at *
        by_cases h5 : p.length = w.length + 1
        · rw [decide_eq_true h5, Bool.true_and]
          have g0 := getLs (l := p) (j := 0) (by omega)
          have hx := hb _ (getLs_mem (l := p) (j := 0) (by omega))
          have d1 : (p.drop 1).take w.length = p.drop 1 := List.take_of_length_le (by rw [List.length_drop]; omega)
          have hgr := grwn_c G hF hG (p.getD 0 []) (p.drop 1) w hx (by rw [List.length_drop]; omega) (by omega) (fun x hx => hb x (List.mem_of_mem_drop hx))
          generalize (grF (p.getD 0 []) (p.drop 1) w w.length).1 = ra at *
          generalize (grF (p.getD 0 []) (p.drop 1) w w.length).2 = rb at *
          have s1 := same_c G ra old
          have s2 := same_c G rb now
          cases hq : ra == old
          · rw [hq] at s1
            rw [Bool.false_and]
            simp only [sf_chkg, putAll, wx, wy, wz, stV, seval, IntWalk.iteOmega, IntWalk.toNatUp, reduceCtorEq]
            refine st_call (hla) rfl (.inl rfl) ?_
            simp only [wx, wy, wz, stV, seval, IntWalk.iteOmega, IntWalk.toNatUp, reduceCtorEq]
            refine st_call (hwy) rfl (.inl rfl) ?_
            simp only [h5, get_map, g0, d1, allSz_ls, wx, wy, wz, stV, seval, IntWalk.iteOmega, IntWalk.toNatUp, reduceCtorEq]
            refine st_call (hgr) rfl (.inl rfl) ?_
            simp only [wx, wy, wz, stV, seval, IntWalk.iteOmega, IntWalk.toNatUp, reduceCtorEq]
            refine st_call (s1) rfl (.inl rfl) ?_
            simp only [wx, wy, wz, stV, seval, IntWalk.iteOmega, IntWalk.toNatUp, reduceCtorEq]
            exact ret_d1 (by simp only [wx, wy, wz, stV, seval, IntWalk.iteOmega, IntWalk.toNatUp, reduceCtorEq])
          · rw [hq] at s1
            rw [Bool.true_and]
            simp only [sf_chkg, putAll, wx, wy, wz, stV, seval, IntWalk.iteOmega, IntWalk.toNatUp, reduceCtorEq]
            refine st_call (hla) rfl (.inl rfl) ?_
            simp only [wx, wy, wz, stV, seval, IntWalk.iteOmega, IntWalk.toNatUp, reduceCtorEq]
            refine st_call (hwy) rfl (.inl rfl) ?_
            simp only [h5, get_map, g0, d1, allSz_ls, wx, wy, wz, stV, seval, IntWalk.iteOmega, IntWalk.toNatUp, reduceCtorEq]
            refine st_call (hgr) rfl (.inl rfl) ?_
            simp only [wx, wy, wz, stV, seval, IntWalk.iteOmega, IntWalk.toNatUp, reduceCtorEq]
            refine st_call (s1) rfl (.inl rfl) ?_
            simp only [wx, wy, wz, stV, seval, IntWalk.iteOmega, IntWalk.toNatUp, reduceCtorEq]
            refine st_call (s2) rfl (.inl rfl) ?_
            simp only [wx, wy, wz, stV, seval, IntWalk.iteOmega, IntWalk.toNatUp, reduceCtorEq]
            exact ret_d1 (by simp only [wx, wy, wz, stV, seval, IntWalk.iteOmega, IntWalk.toNatUp, reduceCtorEq])
        · rw [decide_eq_false h5, Bool.false_and]
          simp only [sf_chkg, putAll, wx, wy, wz, stV, seval, IntWalk.iteOmega, IntWalk.toNatUp, reduceCtorEq]
          refine st_call (hla) rfl (.inl rfl) ?_
          simp only [wx, wy, wz, stV, seval, IntWalk.iteOmega, IntWalk.toNatUp, reduceCtorEq]
          refine st_call (hwy) rfl (.inl rfl) ?_
          simp only [wx, wy, wz, stV, seval, IntWalk.iteOmega, IntWalk.toNatUp, reduceCtorEq]
          exact ret_d1 (by simp only [wx, wy, wz, stV, seval, IntWalk.iteOmega, IntWalk.toNatUp, reduceCtorEq])
  · rw [decide_eq_false hv, Bool.false_and]
    by_cases h1 : m < 1
    · simp only [sf_chkg, putAll, wx, wy, wz, stV, seval, IntWalk.iteOmega, IntWalk.toNatUp, reduceCtorEq]
      exact ret_d1 (by simp only [wx, wy, wz, stV, seval, IntWalk.iteOmega, IntWalk.toNatUp, reduceCtorEq])
    · by_cases h2 : n < m
      · simp only [sf_chkg, putAll, wx, wy, wz, stV, seval, IntWalk.iteOmega, IntWalk.toNatUp, reduceCtorEq]
        exact ret_d1 (by simp only [wx, wy, wz, stV, seval, IntWalk.iteOmega, IntWalk.toNatUp, reduceCtorEq])
      · have h3 : 1024 < n := by omega
        simp only [sf_chkg, putAll, wx, wy, wz, stV, seval, IntWalk.iteOmega, IntWalk.toNatUp, reduceCtorEq]
        exact ret_d1 (by simp only [wx, wy, wz, stV, seval, IntWalk.iteOmega, IntWalk.toNatUp, reduceCtorEq])
end Go.Proofs.YtjgkchmdhicmpaaDoor
set_option linter.unusedVariables false
set_option linter.unusedSimpArgs false
namespace Go.Proofs.YtjgkchmdhicmpaaDoor
open Go.RowKit

/-! ### Lists of n bytes each -/
def cutM (b : List UInt8) (n k : Nat) : List (List UInt8) := (List.range k).map fun i => (b.drop (n * i)).take n
theorem cutM_len (b : List UInt8) (n k : Nat) : (cutM b n k).length = k := by unfold cutM; rw [List.length_map, List.length_range]
theorem cutM_succ (b : List UInt8) (n k : Nat) : cutM b n k ++ [(b.drop (n * k)).take n] = cutM b n (k + 1) := by unfold cutM; rw [List.range_succ, List.map_append]; rfl
theorem cutM_mem {b : List UInt8} {n k : Nat} (h : n * k ≤ b.length) : ∀ x ∈ cutM b n k, x.length = n := by
  intro x hx
  unfold cutM at hx
  obtain ⟨i, hi, rfl⟩ := List.mem_map.1 hx
  have hi := List.mem_range.1 hi
  have : n * (i + 1) ≤ n * k := Nat.mul_le_mul_left n hi
  rw [Nat.mul_succ] at this
  rw [List.length_take, List.length_drop]; omega
theorem cutM_cons {x r : List UInt8} {n : Nat} (h : x.length = n) (k : Nat) : cutM (x ++ r) n (k + 1) = x :: cutM r n k := by
  unfold cutM
  rw [List.range_succ_eq_map, List.map_cons, List.map_map]
  congr 1
  · rw [Nat.mul_zero, List.drop_zero, List.take_left' h]
  · apply List.map_congr_left
    intro i _
    show ((x ++ r).drop (n * (i + 1))).take n = _
    rw [List.drop_append, List.drop_of_length_le (by rw [h, Nat.mul_succ]; omega), h, Nat.mul_succ, Nat.add_sub_cancel]; rfl
theorem cutM_flatten {n : Nat} : ∀ (l : List (List UInt8)) (r : List UInt8), (∀ x ∈ l, x.length = n) → cutM (l.flatten ++ r) n l.length = l
  | [], _, _ => rfl
  | x :: l, r, h => by
    rw [List.flatten_cons, List.append_assoc, List.length_cons, cutM_cons (h x List.mem_cons_self), cutM_flatten l r (fun y hy => h y (List.mem_cons_of_mem _ hy))]
theorem cutf_len {n : Nat} : ∀ {l : List (List UInt8)}, (∀ x ∈ l, x.length = n) → l.flatten.length = n * l.length
  | [], _ => by simp
  | x :: l, h => by
    rw [List.flatten_cons, List.length_append, h x List.mem_cons_self, cutf_len (fun y hy => h y (List.mem_cons_of_mem _ hy)), List.length_cons, Nat.mul_succ]; omega
/-! ### Keys -/
def sckE (seed : List UInt8) (h : Int) : Int := if ¬ seed.length = 32 then 5 else if h < 0 ∨ 6 < h then 4 else 0
theorem sckE_ok {seed : List UInt8} {h : Int} (e : sckE seed h = 0) : seed.length = 32 ∧ 0 ≤ h ∧ h ≤ 6 := by
  unfold sckE at e
  split at e
  · cases e
  · split at e
    · cases e
    · omega
theorem sckE_in {seed : List UInt8} {h : Int} (h1 : seed.length = 32) (h2 : 0 ≤ h) (h3 : h ≤ 6) : sckE seed h = 0 := by
  unfold sckE; rw [if_neg (by omega), if_neg (by omega)]
theorem pow6 {h : Nat} (hh : h ≤ 6) : 1 ≤ 2 ^ h ∧ 2 ^ h ≤ 64 := ⟨Nat.two_pow_pos h, Nat.pow_le_pow_right (by decide) hh⟩
def lvsN (seed : List UInt8) (n : Nat) : List (List UInt8) := (List.range n).map (pubM seed)
def lvsM (seed : List UInt8) (h : Nat) : List (List UInt8) := lvsN seed (2 ^ h)
theorem lvsN_len (seed : List UInt8) (n : Nat) : (lvsN seed n).length = n := by unfold lvsN; rw [List.length_map, List.length_range]
theorem lvsM_len (seed : List UInt8) (h : Nat) : (lvsM seed h).length = 2 ^ h := lvsN_len _ _
theorem lvsN_succ (seed : List UInt8) (n : Nat) : lvsN seed n ++ [pubM seed n] = lvsN seed (n + 1) := by unfold lvsN; rw [List.range_succ, List.map_append]; rfl
theorem pubM_len (seed : List UInt8) (i : Nat) : (pubM seed i).length = 16 := shortK_len _
theorem lvsN_mem {seed : List UInt8} {n : Nat} : ∀ x ∈ lvsN seed n, x.length = 16 := by
  intro x hx
  unfold lvsN at hx
  obtain ⟨i, _, rfl⟩ := List.mem_map.1 hx
  exact pubM_len _ _
theorem lvsM_get (seed : List UInt8) {h i : Nat} (hi : i < 2 ^ h) : (lvsM seed h).getD i [] = pubM seed i := by
  unfold lvsM lvsN
  rw [List.getD_eq_getElem?_getD, List.getElem?_map, List.getElem?_range hi]; rfl
def spubV (seed : List UInt8) (h : Int) : List UInt8 := if sckE seed h = 0 then rootM (lvsM seed h.toNat) else []
def svalB (seed : List UInt8) (h n : Int) : Bool := decide (sckE seed h = 0 ∧ 0 ≤ n ∧ n ≤ ((2 ^ h.toNat : Nat) : Int))
def sleftE (seed : List UInt8) (h n : Int) : Int := if svalB seed h n = true then 0 else 3
def sleftV (seed : List UInt8) (h n : Int) : Int := if svalB seed h n = true then ((2 ^ h.toNat : Nat) : Int) - n else 0
/-! ### Signatures -/
def sdig (pub : List UInt8) (n : Nat) (msg : List UInt8) : List UInt8 := shortK (pub ++ putL n 4 ++ msg)
theorem sdig_len (pub : List UInt8) (n : Nat) (msg : List UInt8) : (sdig pub n msg).length = 16 := shortK_len _
def sgB (h n : Nat) (e p : List (List UInt8)) : List UInt8 := [UInt8.ofNat h] ++ putL n 4 ++ e.flatten ++ p.flatten
def sgM (seed : List UInt8) (h n : Nat) (msg : List UInt8) : List UInt8 := sgB h n (sigM seed n (sdig (rootM (lvsM seed h)) n msg)) (pathM (lvsM seed h) n)
def sgE (seed : List UInt8) (h n : Int) (msg : List UInt8) : Int := if svalB seed h n = true then (if n = ((2 ^ h.toNat : Nat) : Int) then 7 else if 65535 < msg.length then 2 else 0) else 3
/-- What a signature says. -/
def sfH (b : List UInt8) : Nat := (b.getD 0 0).toNat
def sfI (b : List UInt8) : Nat := getN ((b.drop 1).take 4)
def sfB (b : List UInt8) : Bool := decide (565 ≤ b.length ∧ sfH b ≤ 6 ∧ sfI b < 2 ^ sfH b ∧ b.length = 565 + 32 * sfH b)
def sfE (b : List UInt8) : List (List UInt8) := cutM (b.drop 5) 16 35
def sfP (b : List UInt8) : List (List UInt8) := cutM (b.drop 565) 32 (sfH b)
theorem sfE_mem {b : List UInt8} (h : 565 ≤ b.length) : ∀ x ∈ sfE b, x.length = 16 := cutM_mem (by rw [List.length_drop]; omega)
theorem sfP_mem {b : List UInt8} (h : b.length = 565 + 32 * sfH b) : ∀ x ∈ sfP b, x.length = 32 := cutM_mem (by rw [List.length_drop]; omega)
theorem sfB_ok {b : List UInt8} (h : sfB b = true) : 565 ≤ b.length ∧ sfH b ≤ 6 ∧ sfI b < 2 ^ sfH b ∧ b.length = 565 + 32 * sfH b := by
  unfold sfB at h; exact of_decide_eq_true h
def svfB (pub msg sig : List UInt8) : Bool :=
  decide (pub.length = 32) && (decide (msg.length ≤ 65535) && (sfB sig && checkB pub ((2 ^ sfH sig : Nat) : Int) (sfI sig : Int) (recM (sdig pub (sfI sig) msg) (sfE sig)) (sfP sig)))
def sixE (b : List UInt8) : Int := if sfB b = true then 0 else 3
def sixV (b : List UInt8) : Int := if sfB b = true then (sfI b : Int) else 0
theorem get_put4 {n : Nat} (h : n < 4294967296) : getN (putL n 4) = n := by
  have e : putL n 4 = [UInt8.ofNat (n / 256 ^ 3), UInt8.ofNat (n / 256 ^ 2), UInt8.ofNat (n / 256 ^ 1), UInt8.ofNat (n / 256 ^ 0)] := rfl
  rw [e]
  unfold getN
  simp only [List.foldl_cons, List.foldl_nil, UInt8.toNat_ofNat']
  omega
theorem sg_len {h n : Nat} {e p : List (List UInt8)} (he : e.length = 35) (he2 : ∀ x ∈ e, x.length = 16) (hp : p.length = h) (hp2 : ∀ x ∈ p, x.length = 32) : (sgB h n e p).length = 565 + 32 * h := by
  unfold sgB
  rw [List.length_append, List.length_append, List.length_append, putL_length, cutf_len he2, cutf_len hp2, he, hp, List.length_singleton]
theorem sf_sg {h n : Nat} {e p : List (List UInt8)} (hh : h ≤ 6) (hn : n < 2 ^ h) (he : e.length = 35) (he2 : ∀ x ∈ e, x.length = 16) (hp : p.length = h) (hp2 : ∀ x ∈ p, x.length = 32) :
    sfB (sgB h n e p) = true ∧ sfH (sgB h n e p) = h ∧ sfI (sgB h n e p) = n ∧ sfE (sgB h n e p) = e ∧ sfP (sgB h n e p) = p := by
  have hl := sg_len (h := h) (n := n) he he2 hp hp2
  have h64 := pow6 hh
  have eH : sfH (sgB h n e p) = h := by
    show (UInt8.ofNat h).toNat = h
    rw [UInt8.toNat_ofNat']; omega
  have e5 : sgB h n e p = ([UInt8.ofNat h] ++ putL n 4) ++ (e.flatten ++ p.flatten) := by unfold sgB; simp only [List.append_assoc]
  have l5 : ([UInt8.ofNat h] ++ putL n 4).length = 5 := by rw [List.length_append, putL_length]; rfl
  have eI : sfI (sgB h n e p) = n := by
    unfold sfI
    have e1 : (sgB h n e p).drop 1 = putL n 4 ++ (e.flatten ++ p.flatten) := by rw [e5]; rfl
    rw [e1, List.take_left' (putL_length n 4)]
    exact get_put4 (by omega)
  have e6 : sgB h n e p = ([UInt8.ofNat h] ++ putL n 4 ++ e.flatten) ++ p.flatten := rfl
  have l6 : ([UInt8.ofNat h] ++ putL n 4 ++ e.flatten).length = 565 := by rw [List.length_append, l5, cutf_len he2, he]
  refine ⟨?_, eH, eI, ?_, ?_⟩
  · unfold sfB
    rw [eH, eI]
    exact decide_eq_true ⟨by omega, hh, hn, hl⟩
  · unfold sfE
    rw [e5, List.drop_left' l5, ← he]
    exact cutM_flatten e _ he2
  · unfold sfP
    rw [eH, e6, List.drop_left' l6, ← hp, ← List.append_nil p.flatten]
    exact cutM_flatten p _ hp2
/-- A path has elements of 32 bytes, as many as the tree is high. -/
theorem depth_pow : ∀ (h i : Nat), depthM (2 ^ h) i = h
  | 0, i => depth_1 (by decide) i
  | h + 1, i => by
    have hp := Nat.two_pow_pos h
    have e : 2 ^ (h + 1) = 2 * 2 ^ h := by rw [Nat.pow_succ]; omega
    have hs : splitN (2 ^ (h + 1)) = 2 ^ h := split_eq (by omega) (Nat.le_refl _)
    by_cases hi : i < 2 ^ h
    · rw [depth_lo (by omega) (by omega), hs, depth_pow h i]
    · rw [depth_hi (by omega) (by omega), hs, show 2 ^ (h + 1) - 2 ^ h = 2 ^ h by omega, depth_pow h _]
theorem root_32 (l : List (List UInt8)) : (rootM l).length = 32 := by
  rw [rootM]
  split
  · exact sumK_len _
  · split
    · exact sumK_len _
    · exact sumK_len _
theorem path_32 : ∀ (n : Nat) (l : List (List UInt8)) (i : Nat), l.length = n → ∀ x ∈ pathM l i, x.length = 32 := by
  intro n
  induction n using Nat.strongRecOn with
  | _ n ih =>
    intro l i hl x hx
    subst hl
    by_cases h : 2 ≤ l.length
    · have h1 := split_pos l.length
      have h2 := split_lt h
      by_cases hi : i < splitN l.length
      · rw [path_lo h hi] at hx
        rcases List.mem_append.1 hx with hx | hx
        · exact ih _ h2 _ i (by rw [List.length_take]; omega) x hx
        · rw [List.mem_singleton.1 hx]; exact root_32 _
      · rw [path_hi h hi] at hx
        rcases List.mem_append.1 hx with hx | hx
        · exact ih _ (by omega) _ _ List.length_drop x hx
        · rw [List.mem_singleton.1 hx]; exact root_32 _
    · rw [path_1 (by omega)] at hx; cases hx
theorem spath_len (seed : List UInt8) {h n : Nat} (hn : n < 2 ^ h) : (pathM (lvsM seed h) n).length = h := by
  rw [path_len (2 ^ h) _ n (lvsM_len _ _) hn, depth_pow]
theorem sg_parts (seed : List UInt8) {h n : Nat} (hh : h ≤ 6) (hn : n < 2 ^ h) (msg : List UInt8) :
    sfB (sgM seed h n msg) = true ∧ sfH (sgM seed h n msg) = h ∧ sfI (sgM seed h n msg) = n ∧ sfE (sgM seed h n msg) = sigM seed n (sdig (rootM (lvsM seed h)) n msg) ∧ sfP (sgM seed h n msg) = pathM (lvsM seed h) n :=
  sf_sg hh hn (sigN_len _ _ _ _) sig_mem (spath_len seed hn) (path_32 _ _ _ rfl)
theorem sgM_len (seed : List UInt8) {h n : Nat} (hn : n < 2 ^ h) (msg : List UInt8) : (sgM seed h n msg).length = 565 + 32 * h :=
  sg_len (sigN_len _ _ _ _) sig_mem (spath_len seed hn) (path_32 _ _ _ rfl)
/-- What was signed verifies. -/
theorem sg_verifies (seed : List UInt8) {h n : Nat} (hh : h ≤ 6) (hn : n < 2 ^ h) {msg : List UInt8} (hm : msg.length ≤ 65535) : svfB (rootM (lvsM seed h)) msg (sgM seed h n msg) = true := by
  obtain ⟨p1, p2, p3, p4, p5⟩ := sg_parts seed hh hn msg
  have h64 := pow6 hh
  unfold svfB
  rw [p1, p2, p3, p4, p5, rec_sig seed n (sdig_len _ _ _), decide_eq_true (root_32 _), decide_eq_true hm]
  have hO : climbO ((2 ^ h : Nat) : Int) (n : Int) (pathM (lvsM seed h) n) = true := by
    unfold climbO
    refine decide_eq_true ⟨by omega, by omega, by omega, by omega, ?_⟩
    show _ = depthM (2 ^ h) n
    rw [spath_len seed hn, depth_pow]
  have hV : climbV ((2 ^ h : Nat) : Int) (n : Int) (pubM seed n) (pathM (lvsM seed h) n) = rootM (lvsM seed h) := by
    unfold climbV
    rw [if_pos hO]
    show climbM (2 ^ h) n _ _ = _
    rw [← lvsM_get seed hn]
    exact climb_path (2 ^ h) _ n (lvsM_len _ _) hn
  unfold checkB
  rw [hO, hV]
  simp
end Go.Proofs.YtjgkchmdhicmpaaDoor
