/- Packages strconv and strings on data: Itoa, Repeat, Cut at one byte, CutPrefix: by the kit's shelf. Own work. -/
import Derived.Shelf.Strconv.Itoa3
import Derived.Shelf.Strings.Repeat
import Derived.Shelf.Strings.Search2
import Derived.Test.YtbpkkobhlbiclaaDoorShl
import Derived.Test.YtbpkkobhlbiclaaDoorPs3
set_option linter.unusedVariables false
set_option linter.unusedSimpArgs false
namespace Go.Proofs.YtbpkkobhlbiclaaDoor
open Go.RowKit

theorem tab_ok {P : Program} {G : Glob} {S : Cells} {w : World} (hG : GlobOk G S w) {name : String} {g : Nat} {zs : List Int} {k : IntKind} (hn : P.globalNamed name = some g) (ha : G.at g = some (.ra (zs.map fun z => D.int k z))) : Lib.TabIs P w name k zs := by
  unfold Glob.at at ha
  obtain ⟨p, hp, he⟩ := Option.map_eq_some_iff.1 ha
  have hm := List.mem_of_find?_eq_some hp
  have hg : p.1 = g := by simpa using List.find?_some hp
  obtain ⟨h1, _, h3⟩ := hG p hm
  rw [he, hg] at h3
  rw [he, hg] at h1
  obtain ⟨ty, hs⟩ := h3 _ rfl (by intro x hx; obtain ⟨z, _, rfl⟩ := List.mem_map.1 hx; rfl)
  obtain ⟨a, sz, hv, hrow⟩ := h1
  cases hv
  unfold World.shape? at hs
  split at hs
  · rename_i cs t fz hh
    simp only [Option.some.injEq, Prod.mk.injEq, List.length_map] at hs
    obtain ⟨_, hlen⟩ := hs
    unfold Lib.TabIs World.var?
    rw [hn]
    simp only [Option.bind_some, hh, Option.some.injEq]
    apply Array.ext'
    apply List.ext_getElem?
    intro i
    by_cases hi : i < zs.length
    · obtain ⟨c1, c2⟩ := hrow i (by rw [List.length_map]; exact hi)
      have hsz : sz = 1 := by rw [← c1, List.getElem_map]; rfl
      subst hsz
      obtain ⟨v, _, c3, c4⟩ := c2 0 (by rw [List.getElem_map]; exact Nat.one_pos)
      have c5 : v = .int k zs[i] := by
        simp only [List.getElem_map] at c4
        cases c4; rfl
      simp only [World.cell?, hh, Nat.zero_add, Nat.mul_one, Nat.add_zero, Option.isSome_none, Bool.false_eq_true, if_false] at c3
      rw [c5] at c3
      rw [Array.getElem?_toList, c3]
      simp [hi]
    · rw [List.getElem?_eq_none (by simp; omega), List.getElem?_eq_none (by simp; omega)]
  · cases hs
theorem below_grow (w : World) (k : Nat) (os : Array Obj) : Below w.heap.size w (Sort.grow (w.drewN k) os) :=
  ⟨rfl, rfl, rfl, by simp [Sort.grow, World.drewN], fun k hk => by simp [Sort.grow, World.drewN, Array.getElem?_append, hk]⟩
theorem itoa_c (G : Glob) (hP : G.at 1 = some (.ra (Lib.pow10Tab.map fun z => D.int .u64 z))) (n : Int) (h1 : -9223372036854775808 ≤ n) (h2 : n ≤ 9223372036854775807) : Den Tryd.prog G 43 [.int .i64 n] (.w (.c (.d (.str ⟨(Lib.itoa n).toArray⟩)))) := by
  refine den_of_shelf (fun S w us h => args_i h) (fun S w hG => ?_) (fun S w B => res_d (.str _) rfl)
  refine (Any.strconv_Itoa Tryd.laysM171 n h1 h2 w (tab_ok hG (by kernel_rfl) hP)).mono ?_
  rintro e w' ⟨rfl, k, os, rfl⟩
  exact ⟨rfl, below_grow w k os⟩
theorem repe_c (G : Glob) (l : List UInt8) (c : Nat) (h : l.length * c ≤ 140737488355328) (hc : c ≤ 9223372036854775807) : Den Tryd.prog G 44 [.str ⟨l.toArray⟩, .int .i64 (c : Int)] (.w (.c (.d (.str ⟨(Lib.repeatL l c).toArray⟩)))) := by
  refine den_of_shelf (fun S w us h => args_si h) (fun S w hG => ?_) (fun S w B => res_d (.str _) rfl)
  exact Any.strings_Repeat Tryd.lays105 Tryd.Builder_Extra_105 ⟨l.toArray⟩ c w hc (by rw [szS]; exact h)
theorem idx1_c (G : Glob) (l : List UInt8) (c : UInt8) : Den Tryd.prog G 55 [.str ⟨l.toArray⟩, .str ⟨#[c]⟩] (.w (.c (.d (.int .i64 (Lib.indexByte l c))))) := by
  refine den_of_shelf (fun S w us h => args_ss h) (fun S w hG => ?_) (fun S w B => res_d (.int _ _) rfl)
  refine (Any.stringslite_Index_one Tryd.lays219 ⟨l.toArray⟩ c w).mono ?_
  rintro e w' ⟨rfl, rfl⟩
  exact ⟨rfl, Below.refl _ _⟩
/-- What Cut at one byte returns. -/
def cutA (c : UInt8) : List UInt8 → List UInt8
  | [] => []
  | x :: l => if x = c then [] else x :: cutA c l
def cutZ (c : UInt8) : List UInt8 → List UInt8
  | [] => []
  | x :: l => if x = c then l else cutZ c l
theorem cut_idx (c : UInt8) : ∀ l : List UInt8, (Lib.indexByte l c = -1 ∧ c ∉ l ∧ cutA c l = l ∧ cutZ c l = []) ∨ ∃ i : Nat, Lib.indexByte l c = i ∧ i < l.length ∧ c ∈ l ∧ cutA c l = l.take i ∧ cutZ c l = l.drop (i + 1)
  | [] => .inl ⟨rfl, by simp, rfl, rfl⟩
  | x :: l => by
    by_cases h : x = c
    · refine .inr ⟨0, ?_, by simp, by simp [h], ?_, ?_⟩ <;> simp [Lib.indexByte, cutA, cutZ, h]
    · rcases cut_idx c l with ⟨h1, h2, h3, h4⟩ | ⟨i, h1, h2, h3, h4, h5⟩
      · refine .inl ⟨?_, ?_, ?_, ?_⟩
        · simp [Lib.indexByte, h, h1]
        · simp [h2]; exact fun e => h e.symm
        · simp [cutA, h, h3]
        · simp [cutZ, h, h4]
      · refine .inr ⟨i + 1, ?_, by simp; omega, by simp [h3], ?_, ?_⟩
        · have : ¬ ((i : Int) = -1) := by omega
          simp [Lib.indexByte, h, h1, this]
        · simp [cutA, h, h4]
        · simp [cutZ, h, h5]
def sf_cutl : SFn := ⟨2, 23,
  .seq (.reg [⟨(some 4), .mv (.k (.c (.d (.str ⟨#[]⟩)))), none⟩,
    ⟨(some 5), .mv (.k (.c (.d (.str ⟨#[]⟩)))), none⟩,
    ⟨(some 6), .mv (.k (.c (.d (.bool false)))), none⟩])
  (.seq (.seq (.reg [⟨(some 8), .mv (.t 0), none⟩,
    ⟨(some 9), .mv (.t 1), none⟩,
    ⟨(some 10), .call 55 [(.t 8), (.t 9)] none, none⟩,
    ⟨(some 7), .mv (.t 10), none⟩])
  (.seq (.reg [⟨(some 11), .mv (.t 7), none⟩,
    ⟨(some 12), .bin .geq (.t 11) (.k (.c (.d (.int .i64 0)))), none⟩])
  (.cond (.t 12) (.seq (.reg [⟨(some 13), .mv (.t 0), none⟩,
     ⟨(some 14), .mv (.t 7), none⟩,
     ⟨(some 15), .sliceStr (.t 13) none (some (.t 14)), none⟩,
     ⟨(some 16), .mv (.t 0), none⟩,
     ⟨(some 17), .mv (.t 7), none⟩,
     ⟨(some 18), .mv (.t 1), none⟩,
     ⟨(some 19), .lenStr (.t 18), none⟩,
     ⟨(some 20), .bin .add (.t 17) (.t 19), none⟩,
     ⟨(some 21), .sliceStr (.t 16) (some (.t 20)) none, none⟩,
     ⟨(some 4), .mv (.t 15), none⟩,
     ⟨(some 5), .mv (.t 21), none⟩,
     ⟨(some 6), .mv (.k (.c (.d (.bool true)))), none⟩])
   (.ret))
   (.skip))))
  (.seq (.reg [⟨(some 22), .mv (.t 0), none⟩,
    ⟨(some 4), .mv (.t 22), none⟩,
    ⟨(some 5), .mv (.k (.c (.d (.str ⟨#[]⟩)))), none⟩,
    ⟨(some 6), .mv (.k (.c (.d (.bool false)))), none⟩])
  (.ret))),
  [(4, none), (5, none), (6, none)]⟩
theorem cf_cutl : compFn Tryd.prog { own := [], comp := [], frz := [], nils := [] } Tryd.f46 = some sf_cutl := by kernel_rfl
theorem cutl_c (G : Glob) (l : List UInt8) (c : UInt8) (hl : l.length ≤ 9223372036854775807) : Den Tryd.prog G 46 [.str ⟨l.toArray⟩, .str ⟨#[c]⟩] (.tup [.c (.d (.str ⟨(cutA c l).toArray⟩)), .c (.d (.str ⟨(cutZ c l).toArray⟩)), .c (.d (.bool (decide (c ∈ l))))]) := by
  refine den_walk Tryd.func46 cf_cutl rfl rfl ?_
  have hi := idx1_c G l c
  rcases cut_idx c l with ⟨h1, h2, h3, h4⟩ | ⟨i, h1, h2, h3, h4, h5⟩
  · rw [h1] at hi
    rw [h3, h4, decide_eq_false h2]
    simp only [sf_cutl, putAll, wx, wy, wz, stV, seval, IntWalk.iteOmega, IntWalk.toNatUp, reduceCtorEq]
    refine st_call (hi) rfl (.inl rfl) ?_
    simp only [wx, wy, wz, stV, seval, IntWalk.iteOmega, IntWalk.toNatUp, reduceCtorEq]
    exact ret_d3 (by simp only [wx, wy, wz, stV, seval, IntWalk.iteOmega, IntWalk.toNatUp, reduceCtorEq]) (by simp only [wx, wy, wz, stV, seval, IntWalk.iteOmega, IntWalk.toNatUp, reduceCtorEq]) (by simp only [wx, wy, wz, stV, seval, IntWalk.iteOmega, IntWalk.toNatUp, reduceCtorEq])
  · rw [h1] at hi
    rw [decide_eq_true h3]
    have e1 := extS l 0 i (by omega)
    have e2 := extS l (i + 1) l.length (Nat.le_refl _)
    rw [List.drop_zero, Nat.sub_zero, ← h4] at e1
    rw [List.take_of_length_le (by rw [List.length_drop]; exact Nat.le_refl _), ← h5] at e2
    have hge : ((i : Int) ≥ 0) = True := eq_true (by omega)
    simp only [sf_cutl, putAll, wx, wy, wz, stV, seval, IntWalk.iteOmega, IntWalk.toNatUp, reduceCtorEq]
    refine st_call (hi) rfl (.inl rfl) ?_
    simp only [hge, szS, e1, e2, wx, wy, wz, stV, seval, IntWalk.iteOmega, IntWalk.toNatUp, reduceCtorEq]
    exact ret_d3 (by simp only [wx, wy, wz, stV, seval, IntWalk.iteOmega, IntWalk.toNatUp, reduceCtorEq]) (by simp only [wx, wy, wz, stV, seval, IntWalk.iteOmega, IntWalk.toNatUp, reduceCtorEq]) (by simp only [wx, wy, wz, stV, seval, IntWalk.iteOmega, IntWalk.toNatUp, reduceCtorEq])
def sf_cuts : SFn := ⟨2, 13,
  .seq (.reg [⟨(some 4), .mv (.k (.c (.d (.str ⟨#[]⟩)))), none⟩,
    ⟨(some 5), .mv (.k (.c (.d (.str ⟨#[]⟩)))), none⟩,
    ⟨(some 6), .mv (.k (.c (.d (.bool false)))), none⟩])
  (.seq (.reg [⟨(some 7), .mv (.t 0), none⟩,
    ⟨(some 8), .mv (.t 1), none⟩,
    ⟨(some 9), .call 46 [(.t 7), (.t 8)] none, none⟩,
    ⟨(some 10), .extract (.t 9) 0, none⟩,
    ⟨(some 11), .extract (.t 9) 1, none⟩,
    ⟨(some 12), .extract (.t 9) 2, none⟩,
    ⟨(some 4), .mv (.t 10), none⟩,
    ⟨(some 5), .mv (.t 11), none⟩,
    ⟨(some 6), .mv (.t 12), none⟩])
  (.ret)),
  [(4, none), (5, none), (6, none)]⟩
theorem cf_cuts : compFn Tryd.prog { own := [], comp := [], frz := [], nils := [] } Tryd.f39 = some sf_cuts := by kernel_rfl
theorem cuts_c (G : Glob) (l : List UInt8) (c : UInt8) (hl : l.length ≤ 9223372036854775807) : Den Tryd.prog G 39 [.str ⟨l.toArray⟩, .str ⟨#[c]⟩] (.tup [.c (.d (.str ⟨(cutA c l).toArray⟩)), .c (.d (.str ⟨(cutZ c l).toArray⟩)), .c (.d (.bool (decide (c ∈ l))))]) := by
  refine den_walk Tryd.func39 cf_cuts rfl rfl ?_
  simp only [sf_cuts, putAll, wx, wy, wz, stV, seval, IntWalk.iteOmega, IntWalk.toNatUp, reduceCtorEq]
  refine st_call (cutl_c G l c hl) rfl (.inl rfl) ?_
  simp only [wx, wy, wz, stV, seval, IntWalk.iteOmega, IntWalk.toNatUp, reduceCtorEq]
  exact ret_d3 (by simp only [wx, wy, wz, stV, seval, IntWalk.iteOmega, IntWalk.toNatUp, reduceCtorEq]) (by simp only [wx, wy, wz, stV, seval, IntWalk.iteOmega, IntWalk.toNatUp, reduceCtorEq]) (by simp only [wx, wy, wz, stV, seval, IntWalk.iteOmega, IntWalk.toNatUp, reduceCtorEq])
/-- Whether a text begins with a byte, and what lies behind it. -/
def hasP (c : UInt8) : List UInt8 → Bool | [] => false | x :: _ => decide (x = c)
def dropP (c : UInt8) : List UInt8 → List UInt8 | [] => [] | x :: l => if x = c then l else x :: l
def sf_hasp : SFn := ⟨2, 18,
  .seq (.reg [⟨(some 4), .mv (.k (.c (.d (.bool false)))), none⟩])
  (.seq (.reg [⟨(some 5), .mv (.t 0), none⟩,
    ⟨(some 6), .lenStr (.t 5), none⟩,
    ⟨(some 7), .mv (.t 1), none⟩,
    ⟨(some 8), .lenStr (.t 7), none⟩,
    ⟨(some 9), .bin .geq (.t 6) (.t 8), none⟩,
    ⟨(some 10), .mv (.t 9), none⟩,
    ⟨(some 11), .mv (.t 0), (some (10, true))⟩,
    ⟨(some 12), .mv (.t 1), (some (10, true))⟩,
    ⟨(some 13), .lenStr (.t 12), (some (10, true))⟩,
    ⟨(some 14), .sliceStr (.t 11) none (some (.t 13)), (some (10, true))⟩,
    ⟨(some 15), .mv (.t 1), (some (10, true))⟩,
    ⟨(some 16), .bin .eql (.t 14) (.t 15), (some (10, true))⟩,
    ⟨(some 17), .pick (.t 10) (.t 16) (.k (.c (.d (.bool false)))), none⟩,
    ⟨(some 4), .mv (.t 17), none⟩])
  (.ret)),
  [(4, none)]⟩
theorem cf_hasp : compFn Tryd.prog { own := [], comp := [], frz := [], nils := [] } Tryd.f56 = some sf_hasp := by kernel_rfl
theorem hasp_c (G : Glob) (l : List UInt8) (c : UInt8) (hl : l.length ≤ 9223372036854775807) : Den Tryd.prog G 56 [.str ⟨l.toArray⟩, .str ⟨#[c]⟩] (.w (.c (.d (.bool (hasP c l))))) := by
  refine den_walk Tryd.func56 cf_hasp rfl rfl ?_
  have e0 := szS l
  have e1 : (ByteArray.mk #[c]).size = 1 := rfl
  rcases l with _ | ⟨x, l⟩
  · simp only [sf_hasp, putAll, wx, wy, wz, stV, seval, IntWalk.iteOmega, IntWalk.toNatUp, reduceCtorEq, e0, e1, hasP]
    exact ret_d1 (by simp only [wx, wy, wz, stV, seval, IntWalk.iteOmega, IntWalk.toNatUp, reduceCtorEq])
  · have h1 : ((x :: l).length : Int) ≥ 1 := by rw [List.length_cons]; omega
    have e2 := extS (x :: l) 0 1 (by simp)
    have e3 : ((x :: l).drop 0).take (1 - 0) = [x] := by simp
    have e4 : decide ([x] = [c]) = decide (x = c) := by simp
    rw [e3] at e2
    rw [List.length_cons] at e0 h1
    have hge : (((l.length : Int) + 1) ≥ 1) = True := eq_true (by omega)
    simp only [sf_hasp, putAll, wx, wy, wz, stV, seval, IntWalk.iteOmega, IntWalk.toNatUp, reduceCtorEq, e0, e1, e2, eqlS, hasP, e4, hge]
    exact ret_d1 (by simp only [wx, wy, wz, stV, seval, IntWalk.iteOmega, IntWalk.toNatUp, reduceCtorEq])
def sf_cpl : SFn := ⟨2, 15,
  .seq (.reg [⟨(some 4), .mv (.k (.c (.d (.str ⟨#[]⟩)))), none⟩,
    ⟨(some 5), .mv (.k (.c (.d (.bool false)))), none⟩])
  (.seq (.seq (.reg [⟨(some 6), .mv (.t 0), none⟩,
    ⟨(some 7), .mv (.t 1), none⟩,
    ⟨(some 8), .call 56 [(.t 6), (.t 7)] none, none⟩,
    ⟨(some 9), .un .not (.t 8), none⟩])
  (.cond (.t 9) (.seq (.reg [⟨(some 10), .mv (.t 0), none⟩,
     ⟨(some 4), .mv (.t 10), none⟩,
     ⟨(some 5), .mv (.k (.c (.d (.bool false)))), none⟩])
   (.ret))
   (.skip)))
  (.seq (.reg [⟨(some 11), .mv (.t 0), none⟩,
    ⟨(some 12), .mv (.t 1), none⟩,
    ⟨(some 13), .lenStr (.t 12), none⟩,
    ⟨(some 14), .sliceStr (.t 11) (some (.t 13)) none, none⟩,
    ⟨(some 4), .mv (.t 14), none⟩,
    ⟨(some 5), .mv (.k (.c (.d (.bool true)))), none⟩])
  (.ret))),
  [(4, none), (5, none)]⟩
theorem cf_cpl : compFn Tryd.prog { own := [], comp := [], frz := [], nils := [] } Tryd.f47 = some sf_cpl := by kernel_rfl
theorem cpl_c (G : Glob) (l : List UInt8) (c : UInt8) (hl : l.length ≤ 9223372036854775807) : Den Tryd.prog G 47 [.str ⟨l.toArray⟩, .str ⟨#[c]⟩] (.tup [.c (.d (.str ⟨(dropP c l).toArray⟩)), .c (.d (.bool (hasP c l)))]) := by
  refine den_walk Tryd.func47 cf_cpl rfl rfl ?_
  have hc := hasp_c G l c hl
  have e1 : (ByteArray.mk #[c]).size = 1 := rfl
  have e0 := szS l
  cases h : hasP c l
  · rw [h] at hc
    have hd : dropP c l = l := by
      cases l with
      | nil => rfl
      | cons x l => exact if_neg (of_decide_eq_false h)
    rw [hd]
    simp only [sf_cpl, putAll, wx, wy, wz, stV, seval, IntWalk.iteOmega, IntWalk.toNatUp, reduceCtorEq]
    refine st_call (hc) rfl (.inl rfl) ?_
    simp only [wx, wy, wz, stV, seval, IntWalk.iteOmega, IntWalk.toNatUp, reduceCtorEq]
    exact ret_d2 (by simp only [wx, wy, wz, stV, seval, IntWalk.iteOmega, IntWalk.toNatUp, reduceCtorEq]) (by simp only [wx, wy, wz, stV, seval, IntWalk.iteOmega, IntWalk.toNatUp, reduceCtorEq])
  · rw [h] at hc
    rcases l with _ | ⟨x, l⟩
    · cases h
    · have hd : dropP c (x :: l) = l := if_pos (of_decide_eq_true h)
      have e2 := extS (x :: l) 1 (x :: l).length (Nat.le_refl _)
      have e3 : ((x :: l).drop 1).take ((x :: l).length - 1) = l := by simp
      rw [e3] at e2
      rw [hd]
      rw [List.length_cons] at e0 e2
      simp only [sf_cpl, putAll, wx, wy, wz, stV, seval, IntWalk.iteOmega, IntWalk.toNatUp, reduceCtorEq]
      refine st_call (hc) rfl (.inl rfl) ?_
      simp only [e0, e1, e2, wx, wy, wz, stV, seval, IntWalk.iteOmega, IntWalk.toNatUp, reduceCtorEq]
      exact ret_d2 (by simp only [wx, wy, wz, stV, seval, IntWalk.iteOmega, IntWalk.toNatUp, reduceCtorEq]) (by simp only [wx, wy, wz, stV, seval, IntWalk.iteOmega, IntWalk.toNatUp, reduceCtorEq])
def sf_cpr : SFn := ⟨2, 11,
  .seq (.reg [⟨(some 4), .mv (.k (.c (.d (.str ⟨#[]⟩)))), none⟩,
    ⟨(some 5), .mv (.k (.c (.d (.bool false)))), none⟩])
  (.seq (.reg [⟨(some 6), .mv (.t 0), none⟩,
    ⟨(some 7), .mv (.t 1), none⟩,
    ⟨(some 8), .call 47 [(.t 6), (.t 7)] none, none⟩,
    ⟨(some 9), .extract (.t 8) 0, none⟩,
    ⟨(some 10), .extract (.t 8) 1, none⟩,
    ⟨(some 4), .mv (.t 9), none⟩,
    ⟨(some 5), .mv (.t 10), none⟩])
  (.ret)),
  [(4, none), (5, none)]⟩
theorem cf_cpr : compFn Tryd.prog { own := [], comp := [], frz := [], nils := [] } Tryd.f40 = some sf_cpr := by kernel_rfl
theorem cpr_c (G : Glob) (l : List UInt8) (c : UInt8) (hl : l.length ≤ 9223372036854775807) : Den Tryd.prog G 40 [.str ⟨l.toArray⟩, .str ⟨#[c]⟩] (.tup [.c (.d (.str ⟨(dropP c l).toArray⟩)), .c (.d (.bool (hasP c l)))]) := by
  refine den_walk Tryd.func40 cf_cpr rfl rfl ?_
  simp only [sf_cpr, putAll, wx, wy, wz, stV, seval, IntWalk.iteOmega, IntWalk.toNatUp, reduceCtorEq]
  refine st_call (cpl_c G l c hl) rfl (.inl rfl) ?_
  simp only [wx, wy, wz, stV, seval, IntWalk.iteOmega, IntWalk.toNatUp, reduceCtorEq]
  exact ret_d2 (by simp only [wx, wy, wz, stV, seval, IntWalk.iteOmega, IntWalk.toNatUp, reduceCtorEq]) (by simp only [wx, wy, wz, stV, seval, IntWalk.iteOmega, IntWalk.toNatUp, reduceCtorEq])
end Go.Proofs.YtbpkkobhlbiclaaDoor
