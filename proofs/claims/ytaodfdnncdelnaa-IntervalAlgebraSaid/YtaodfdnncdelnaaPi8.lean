/- Layer 11: spans in ascending order, joined one by one: pure; and the program's Union. Own work. -/
import Derived.Test.YtaodfdnncdelnaaPi7
import Derived.Test.YtaodfdnncdelnaaPs5
set_option linter.unusedVariables false
set_option linter.unusedSimpArgs false
namespace Go.Proofs.Ytaodfdnncdelnaa
open Go.RowKit

/-! ### Joined one by one -/
theorem norm_unsnoc : ∀ {r : List Spn} {q : Spn}, normU (r ++ [q]) → normU r ∧ q.1 ≤ q.2 ∧ ∀ x ∈ r, x.2 + 2 ≤ q.1
  | [], q, h => ⟨trivial, h.1, fun x hx => by cases hx⟩
  | p :: r, q, h => by
    obtain ⟨h1, h2, h3⟩ := norm_unsnoc (r := r) (q := q) h.2.2
    refine ⟨⟨h.1, fun x hx => h.2.1 x (List.mem_append_left _ hx), h1⟩, h2, fun x hx => ?_⟩
    rcases List.mem_cons.1 hx with rfl | hx
    · exact h.2.1 q (List.mem_append_right _ (List.mem_singleton.2 rfl))
    · exact h3 x hx
def mrgL (u : List Spn) : Spn := u.getD (u.length - 1) (0, 0)
def mrgS (u : List Spn) (s : Spn) : List Spn := if u.length = 0 ∨ (mrgL u).2 + 1 < s.1 then u ++ [s] else u.set (u.length - 1) ((mrgL u).1, max (mrgL u).2 s.2)
def mrgN (l : List Spn) (i : Nat) : List Spn := (l.take i).foldl mrgS []
theorem mrgN_succ {l : List Spn} {i : Nat} (h : i < l.length) : mrgN l (i + 1) = mrgS (mrgN l i) (l.getD i (0, 0)) := by
  unfold mrgN; rw [takeS h, List.foldl_append]; rfl
theorem mrg_snoc (r : List Spn) (q s : Spn) : mrgL (r ++ [q]) = q ∧ mrgS (r ++ [q]) s = if q.2 + 1 < s.1 then r ++ [q] ++ [s] else r ++ [(q.1, max q.2 s.2)] := by
  have e : mrgL (r ++ [q]) = q := by
    unfold mrgL
    rw [List.length_append, List.length_singleton, Nat.add_sub_cancel, List.getD_eq_getElem?_getD, List.getElem?_append_right (Nat.le_refl _), Nat.sub_self]
    rfl
  refine ⟨e, ?_⟩
  unfold mrgS
  rw [e, List.length_append, List.length_singleton]
  by_cases h : q.2 + 1 < s.1
  · rw [if_pos (.inr h), if_pos h]
  · rw [if_neg (by omega), if_neg h, Nat.add_sub_cancel]
    rw [List.set_append_right _ _ (Nat.le_refl _), Nat.sub_self]
    rfl
/-- What is so far joined. -/
structure MrgOk (l u : List Spn) : Prop where
  norm : normU u
  cov : ∀ t, inU t u ↔ inU t l
  lo : ∀ q ∈ u, ∃ p ∈ l, p.1 = q.1
  hi : ∀ q ∈ u, ∃ p ∈ l, p.2 = q.2
  len : u.length ≤ l.length
theorem mrg_ok {l u : List Spn} {s : Spn} (h : MrgOk l u) (hs : s.1 ≤ s.2) (ha : ∀ p ∈ l, p.1 ≤ s.1) : MrgOk (l ++ [s]) (mrgS u s) := by
  have ml : ∀ p ∈ l, p ∈ l ++ [s] := fun p hp => List.mem_append_left _ hp
  have ms : s ∈ l ++ [s] := List.mem_append_right _ (List.mem_singleton.2 rfl)
  rcases List.eq_nil_or_concat u with rfl | ⟨r, q, rfl⟩
  · have e : mrgS [] s = [s] := rfl
    rw [e]
    refine ⟨⟨hs, fun q hq => (by cases hq), trivial⟩, fun t => ?_, fun q hq => ?_, fun q hq => ?_, by rw [List.length_append, List.length_singleton]; omega⟩
    · rw [inU_append, ← h.cov t]
      exact ⟨.inr, fun k => k.resolve_left (inU_nil t)⟩
    · rw [List.mem_singleton.1 hq]; exact ⟨s, ms, rfl⟩
    · rw [List.mem_singleton.1 hq]; exact ⟨s, ms, rfl⟩
  · rw [List.concat_eq_append] at *
    obtain ⟨n1, n2, n3⟩ := norm_unsnoc h.norm
    have hq : q ∈ r ++ [q] := List.mem_append_right _ (List.mem_singleton.2 rfl)
    obtain ⟨p, hp, e1⟩ := h.lo q hq
    have hqs : q.1 ≤ s.1 := by rw [← e1]; exact ha p hp
    rw [(mrg_snoc r q s).2]
    have hl := h.len
    rw [List.length_append, List.length_singleton] at hl
    by_cases hg : q.2 + 1 < s.1
    · rw [if_pos hg]
      refine ⟨norm_snoc h.norm hs (fun x hx => ?_), fun t => ?_, fun x hx => ?_, fun x hx => ?_, by simp only [List.length_append, List.length_singleton]; omega⟩
      · rcases List.mem_append.1 hx with hx | hx
        · have := n3 x hx; omega
        · rw [List.mem_singleton.1 hx]; omega
      · rw [inU_append t (r ++ [q]), inU_append t l, h.cov t]
      · rcases List.mem_append.1 hx with hx | hx
        · obtain ⟨p, hp, e⟩ := h.lo x hx; exact ⟨p, ml p hp, e⟩
        · rw [List.mem_singleton.1 hx]; exact ⟨s, ms, rfl⟩
      · rcases List.mem_append.1 hx with hx | hx
        · obtain ⟨p, hp, e⟩ := h.hi x hx; exact ⟨p, ml p hp, e⟩
        · rw [List.mem_singleton.1 hx]; exact ⟨s, ms, rfl⟩
    · rw [if_neg hg]
      refine ⟨norm_snoc n1 (by dsimp only; omega) (fun x hx => n3 x hx), fun t => ?_, fun x hx => ?_, fun x hx => ?_, by simp only [List.length_append, List.length_singleton]; omega⟩
      · rw [inU_append, inU_append, ← h.cov t, inU_append]
        have hn := inU_nil t
        simp only [inU_cons, inS]
        constructor
        · rintro (k | k | k)
          · exact .inl (.inl k)
          · by_cases ht : t ≤ q.2
            · exact .inl (.inr (.inl ⟨k.1, ht⟩))
            · exact .inr (.inl ⟨by omega, by have := k.2; omega⟩)
          · exact absurd k hn
        · rintro ((k | k | k) | k | k)
          · exact .inl k
          · exact .inr (.inl ⟨k.1, by have := k.2; omega⟩)
          · exact absurd k hn
          · exact .inr (.inl ⟨by have := k.1; omega, by have := k.2; omega⟩)
          · exact absurd k hn
      · rcases List.mem_append.1 hx with hx | hx
        · obtain ⟨p, hp, e⟩ := h.lo x (List.mem_append_left _ hx); exact ⟨p, ml p hp, e⟩
        · rw [List.mem_singleton.1 hx]; exact ⟨p, ml p hp, e1⟩
      · rcases List.mem_append.1 hx with hx | hx
        · obtain ⟨p, hp, e⟩ := h.hi x (List.mem_append_left _ hx); exact ⟨p, ml p hp, e⟩
        · rw [List.mem_singleton.1 hx]
          obtain ⟨p2, hp2, e2⟩ := h.hi q hq
          by_cases hm : q.2 ≤ s.2
          · exact ⟨s, ms, by dsimp only; omega⟩
          · exact ⟨p2, ml p2 hp2, by dsimp only; omega⟩
theorem mrgN_ok {s : List Spn} (hv : ∀ p ∈ s, p.1 ≤ p.2) (ha : ∀ i j, i < j → j < s.length → (s.getD i (0, 0)).1 ≤ (s.getD j (0, 0)).1) : ∀ i, i ≤ s.length → MrgOk (s.take i) (mrgN s i)
  | 0, _ => ⟨trivial, fun t => (by rw [List.take_zero]; exact Iff.rfl), fun q hq => (by cases hq), fun q hq => (by cases hq), Nat.zero_le _⟩
  | i + 1, h => by
    rw [mrgN_succ (by omega), takeS (by omega)]
    refine mrg_ok (mrgN_ok hv ha i (by omega)) (hv _ (getS_mem (by omega))) fun p hp => ?_
    obtain ⟨j, hj, rfl⟩ := List.getElem_of_mem hp
    rw [List.length_take] at hj
    have := ha j i (by omega) (by omega)
    rw [List.getElem_take]
    rw [List.getD_eq_getElem?_getD, List.getElem?_eq_getElem (by omega)] at this
    exact this
theorem mrg_union {l s : List Spn} (h : SrtOk l s) (hv : ∀ p ∈ l, p.1 ≤ p.2) : mrgN s s.length = unionL l := by
  have k := mrgN_ok (fun p hp => hv p ((h.mem p).1 hp)) h.asc s.length (Nat.le_refl _)
  rw [List.take_length] at k
  refine union_is hv k.norm fun t => (k.cov t).trans ?_
  constructor
  · rintro ⟨p, hp, e⟩; exact ⟨p, (h.mem p).1 hp, e⟩
  · rintro ⟨p, hp, e⟩; exact ⟨p, (h.mem p).2 hp, e⟩

/-! ### Union -/
theorem stO_hi {u : List Spn} {q : Spn} {i : Nat} {m : Int} (h : u[i]? = some q) : stO Kd.sc (W.c (C.d (D.int IntKind.i64 m))) i 1 (Ob.row 2 (u.map spD)) = some (Ob.row 2 ((u.set i (q.1, m)).map spD)) := by
  unfold stO
  simp only [List.getElem?_map, h, Option.map_some, List.map_set]
  rfl
def iunSt (s : List Spn) (i : Nat) : St := ⟨ofL [(4, .w (.c (.own 1 2 0 (mrgN s i).length))), (15, .w (.c (.d (.sl (s.map spD))))), (16, .w (.c (.d (.int .i64 (s.length : Int))))), (17, .w (.c (.d (.int .i64 (i : Int)))))],
  hL [(1, .row 2 ((mrgN s i).map spD))], uL [1]⟩
theorem fl_sp (s : Nat) (l : List Spn) (k : IntKind) (n : Int) : V.flat (.tup [.c (.fr s (l.map spD)), .c (.d (.int k n))]) = true := by
  simp only [V.flat, W.flat, C.flat, List.all_cons, List.all_nil, Bool.and_true, List.all_map, Bool.and_eq_true, List.all_eq_true]
  exact ⟨fun x _ => rfl, rfl⟩
def lp_iuni11_0 : SCode :=
  .seq (.reg [⟨(some 18), .bin .lss (.t 17) (.t 16), none⟩])
  (.seq (.cond (.t 18) (.skip)
   (.exit 0))
  (.seq (.block 1 (.seq (.reg [⟨(some 19), .idxSl 2 (.t 15) (.t 17), none⟩,
     ⟨(some 20), .load (.ag 2) (.t 19), none⟩,
     ⟨(some 6), .alloc [(.d (.int .i64 0)), (.d (.int .i64 0))], none⟩,
     ⟨none, .store (.ag 2) (.t 6) (.t 20), none⟩])
   (.seq (.reg [⟨(some 21), .mv (.t 4), none⟩,
     ⟨(some 22), .len (.t 21), none⟩,
     ⟨(some 23), .bin .sub (.t 22) (.k (.c (.d (.int .i64 1)))), none⟩,
     ⟨(some 7), .mv (.t 23), none⟩])
   (.seq (.seq (.reg [⟨(some 24), .mv (.t 7), none⟩,
     ⟨(some 25), .bin .lss (.t 24) (.k (.c (.d (.int .i64 0)))), none⟩,
     ⟨(some 26), .mv (.t 25), none⟩,
     ⟨(some 27), .mv (.t 4), (some (26, false))⟩,
     ⟨(some 28), .mv (.t 7), (some (26, false))⟩,
     ⟨(some 29), .idxSl 2 (.t 27) (.t 28), (some (26, false))⟩,
     ⟨(some 30), .fieldAddr 1 (.t 29), (some (26, false))⟩,
     ⟨(some 31), .load .sc (.t 30), (some (26, false))⟩,
     ⟨(some 32), .bin .add (.t 31) (.k (.c (.d (.int .i64 1)))), (some (26, false))⟩,
     ⟨(some 33), .fieldAddr 0 (.t 6), (some (26, false))⟩,
     ⟨(some 34), .load .sc (.t 33), (some (26, false))⟩,
     ⟨(some 35), .bin .lss (.t 32) (.t 34), (some (26, false))⟩,
     ⟨(some 36), .pick (.t 26) (.k (.c (.d (.bool true)))) (.t 35), none⟩])
   (.cond (.t 36) (.seq (.reg [⟨(some 37), .mv (.t 4), none⟩,
      ⟨(some 38), .load (.ag 2) (.t 6), none⟩,
      ⟨(some 39), .bldSl false 1 2 (.agg [(.int .i64 0), (.int .i64 0)]) [(0, (.t 38))], none⟩,
      ⟨(some 40), .app false 2 16 (.t 37) (.t 39), none⟩,
      ⟨(some 4), .mv (.t 40), none⟩])
    (.exit 1))
    (.skip)))
   (.reg [⟨(some 41), .mv (.t 4), none⟩,
     ⟨(some 42), .mv (.t 7), none⟩,
     ⟨(some 43), .mv (.t 4), none⟩,
     ⟨(some 44), .mv (.t 7), none⟩,
     ⟨(some 45), .idxSl 2 (.t 43) (.t 44), none⟩,
     ⟨(some 46), .fieldAddr 1 (.t 45), none⟩,
     ⟨(some 47), .load .sc (.t 46), none⟩,
     ⟨(some 48), .fieldAddr 1 (.t 6), none⟩,
     ⟨(some 49), .load .sc (.t 48), none⟩,
     ⟨(some 50), .max [(.t 47), (.t 49)], none⟩,
     ⟨(some 51), .idxSl 2 (.t 41) (.t 42), none⟩,
     ⟨(some 52), .fieldAddr 1 (.t 51), none⟩,
     ⟨none, .store .sc (.t 52) (.t 50), none⟩])))))
  (.reg [⟨(some 53), .bin .add (.t 17) (.k (.c (.d (.int .i64 1)))), none⟩,
    ⟨(some 17), .mv (.t 53), none⟩])))
def sf_iuni11 : SFn := ⟨1, 55,
  .seq (.reg [⟨(some 2), .mv (.k (.c .nil)), none⟩,
    ⟨(some 3), .mv (.k (.c (.d (.int .i64 0)))), none⟩])
  (.seq (.seq (.reg [⟨(some 8), .mv (.t 0), none⟩,
    ⟨(some 9), .call 51 [(.t 8)] none, none⟩,
    ⟨(some 10), .un .not (.t 9), none⟩])
  (.cond (.t 10) (.seq (.reg [⟨(some 2), .mv (.k (.c .nil)), none⟩,
     ⟨(some 3), .mv (.k (.c (.d (.int .i64 3)))), none⟩])
   (.ret))
   (.skip)))
  (.seq (.seq (.reg [⟨(some 11), .mv (.t 0), none⟩,
    ⟨(some 12), .len (.t 11), none⟩,
    ⟨(some 13), .bin .gtr (.t 12) (.k (.c (.d (.int .i64 64)))), none⟩])
  (.cond (.t 13) (.seq (.reg [⟨(some 2), .mv (.k (.c .nil)), none⟩,
     ⟨(some 3), .mv (.k (.c (.d (.int .i64 8)))), none⟩])
   (.ret))
   (.skip)))
  (.seq (.reg [⟨(some 4), .nilOwn 2, none⟩])
  (.seq (.seq (.reg [⟨(some 14), .mv (.t 0), none⟩,
    ⟨(some 15), .call 52 [(.t 14)] none, none⟩,
    ⟨(some 16), .len (.t 15), none⟩,
    ⟨(some 17), .mv (.k (.c (.d (.int .i64 0)))), none⟩])
  (.block 0 (.loop lp_iuni11_0)))
  (.seq (.reg [⟨(some 54), .mv (.t 4), none⟩,
    ⟨(some 2), .mv (.t 54), none⟩,
    ⟨(some 3), .mv (.k (.c (.d (.int .i64 0)))), none⟩])
  (.ret)))))),
  [(2, none), (3, none)]⟩
theorem cf_iuni11 : compFn Try.prog { own := [4], comp := [], frz := [], nils := [] } Try.f34 = some sf_iuni11 := by kernel_rfl
set_option maxHeartbeats 3200000 in
theorem iuni11_f (G : Glob) (l : List Spn) (hl : l.length ≤ 9223372036854775807) : Den Try.prog G 34 [.sl (l.map spD)] (.tup [.c (.fr 2 ((uniLs l).map spD)), .c (.d (.int .i64 (uniEr l)))]) := by
  refine den_walk Try.func34 cf_iuni11 rfl rfl ?_
  have cv := vls_c G l hl
  cases hok : allOk l
  · rw [hok] at cv
    have e1 : uniEr l = 3 := if_neg (by rw [hok]; simp)
    have e2 : uniLs l = [] := if_neg (by rw [hok]; simp)
    rw [e1, e2]
    simp only [sf_iuni11, putAll, wx, wy, wz, stV, seval, IntWalk.iteOmega, IntWalk.toNatUp, reduceCtorEq]
    refine st_call (cv) rfl (.inl rfl) ?_
    simp only [wx, wy, wz, stV, seval, IntWalk.iteOmega, IntWalk.toNatUp, reduceCtorEq]
    exact ret_f2 (by simp only [wx, wy, wz, stV, seval, IntWalk.iteOmega, IntWalk.toNatUp, reduceCtorEq]) (by simp only [wx, wy, wz, stV, seval, IntWalk.iteOmega, IntWalk.toNatUp, reduceCtorEq])
  · rw [hok] at cv
    by_cases hb : l.length ≤ 64
    · have e1 : uniEr l = 0 := by unfold uniEr; rw [if_pos hok, if_pos hb]
      have e2 : uniLs l = unionL l := if_pos ⟨hok, hb⟩
      have hb' : ((l.length : Int) > 64) = False := eq_false (by omega)
      obtain ⟨s, hs, ca⟩ := asc_ex G l (by omega)
      have hin : ∀ p ∈ s, -1152921504606846976 ≤ p.1 ∧ p.2 ≤ 1152921504606846976 ∧ p.1 ≤ p.2 := fun p hp => allOk_le hok p ((hs.mem p).1 hp)
      have hle := hs.len
      have hun := mrg_union hs (fun p hp => (allOk_le hok p hp).2.2)
      have hmr := mrgN_ok (s := s) (fun p hp => (hin p hp).2.2) hs.asc
      rw [e1, e2, ← hun]
      clear hun e1 e2
      have ca' := den_ro ca
      simp only [sf_iuni11, putAll, wx, wy, wz, stV, seval, IntWalk.iteOmega, IntWalk.toNatUp, reduceCtorEq]
      refine st_call (cv) rfl (.inl rfl) ?_
      simp only [hb', wx, wy, wz, stV, seval, IntWalk.iteOmega, IntWalk.toNatUp, reduceCtorEq]
      refine st_call (ca') rfl (.inl rfl) ?_
      simp only [wx, wy, wz, stV, seval, IntWalk.iteOmega, IntWalk.toNatUp, reduceCtorEq]
      refine loop_st (iunSt s) (fun i => s.length - i) (fun i => i ≤ s.length) 0 (Nat.zero_le _) ?_ ?_
      · have e0 : mrgN s 0 = [] := rfl
        refine ent_l (fun _ => 32) ?_ ?_ rfl rfl <;> simp only [wx, wex, wez, stV, seval, IntWalk.iteOmega, IntWalk.toNatUp, reduceCtorEq, e0]
      · intro i hi
        by_cases hlt : i < s.length
        · have g := getS hlt
          have hsu := mrgN_succ hlt
          have ok := hmr i hi
          have hX := hin _ (getS_mem hlt)
          have hlen := ok.len
          rw [List.length_take] at hlen
          have fs : spD (s.getD i (0, 0)) = .agg [.int .i64 (s.getD i (0, 0)).1, .int .i64 (s.getD i (0, 0)).2] := rfl
          have hQ : 0 < (mrgN s i).length → -1152921504606846976 ≤ (mrgL (mrgN s i)).1 ∧ (mrgL (mrgN s i)).2 ≤ 1152921504606846976 ∧ (mrgL (mrgN s i)).1 ≤ (mrgL (mrgN s i)).2 ∧ (mrgN s i)[(mrgN s i).length - 1]? = some (mrgL (mrgN s i)) := fun h0 => by
            have hm : mrgL (mrgN s i) ∈ mrgN s i := getS_mem (by omega)
            obtain ⟨p, hp, e1⟩ := ok.lo _ hm
            obtain ⟨q, hq, e2⟩ := ok.hi _ hm
            have := hin p (List.mem_of_mem_take hp)
            have := hin q (List.mem_of_mem_take hq)
            have := norm_mem ok.norm _ hm
            exact ⟨by omega, by omega, this, getS (by omega)⟩
          generalize hU : mrgN s i = U at *
          generalize hXX : s.getD i (0, 0) = X at *
          by_cases h0 : U.length = 0
          · have hn : U = [] := List.length_eq_zero_iff.1 h0
            subst hn
            have f1 : mrgN s (i + 1) = [X] := by rw [hsu]; rfl
            have f2 : [X].map spD = [.agg [.int .i64 X.1, .int .i64 X.2]] := rfl
            simp only [lp_iuni11_0, iunSt, wx, wy, wz, stV, seval, IntWalk.iteOmega, IntWalk.toNatUp, reduceCtorEq, hU, get_map, g, fs, srcV]
            refine lop_next (i + 1) (by omega) (by omega) (ent_l (fun _ => 320) ?_ ?_ rfl rfl) <;> simp only [wx, wex, wez, stV, seval, IntWalk.iteOmega, IntWalk.toNatUp, reduceCtorEq, f1, f2]
          · obtain ⟨q1, q2, q3, q4⟩ := hQ (by omega)
            have hl1 : ((U.length : Int) - 1).toNat = U.length - 1 := by omega
            have hneg : ((U.length : Int) - 1 < 0) = False := eq_false (by omega)
            have fq : spD (mrgL U) = .agg [.int .i64 (mrgL U).1, .int .i64 (mrgL U).2] := rfl
            by_cases hg : (mrgL U).2 + 1 < X.1
            · have f1 : mrgN s (i + 1) = U ++ [X] := by rw [hsu]; exact if_pos (.inr hg)
              have f2 : (U ++ [X]).map spD = U.map spD ++ [.agg [.int .i64 X.1, .int .i64 X.2]] := List.map_append
              have f3 : (U ++ [X]).length = U.length + 1 := List.length_append
              simp only [lp_iuni11_0, iunSt, wx, wy, wz, stV, seval, IntWalk.iteOmega, IntWalk.toNatUp, reduceCtorEq, hU, get_map, g, fs, hneg, hl1, q4, fq, srcV]
              refine lop_next (i + 1) (by omega) (by omega) (ent_l (fun _ => 320) ?_ ?_ rfl rfl) <;> simp only [wx, wex, wez, stV, seval, IntWalk.iteOmega, IntWalk.toNatUp, reduceCtorEq, f1, f2, f3]
            · have f1 : mrgN s (i + 1) = U.set (U.length - 1) ((mrgL U).1, max (mrgL U).2 X.2) := by rw [hsu]; exact if_neg (by omega)
              have f2 := stO_hi (u := U) (q := mrgL U) (i := U.length - 1) (m := max (mrgL U).2 X.2) q4
              have f3 : (U.set (U.length - 1) ((mrgL U).1, max (mrgL U).2 X.2)).length = U.length := List.length_set
              simp only [lp_iuni11_0, iunSt, wx, wy, wz, stV, seval, IntWalk.iteOmega, IntWalk.toNatUp, reduceCtorEq, hU, get_map, g, fs, hneg, hl1, q4, fq, max2, f2]
              refine lop_next (i + 1) (by omega) (by omega) (ent_l (fun i => i) ?_ ?_ rfl rfl) <;> simp only [wx, wex, wez, stV, seval, IntWalk.iteOmega, IntWalk.toNatUp, reduceCtorEq, f1, f3]
        · have hil : i = s.length := by omega
          simp only [lp_iuni11_0, iunSt, wx, wy, wz, stV, seval, IntWalk.iteOmega, IntWalk.toNatUp, reduceCtorEq, hil]
          exact ret_f2 (by simp only [wx, wy, wz, stV, seval, IntWalk.iteOmega, IntWalk.toNatUp, reduceCtorEq]) (by simp only [wx, wy, wz, stV, seval, IntWalk.iteOmega, IntWalk.toNatUp, reduceCtorEq])
    · have hb' : ((l.length : Int) > 64) = True := eq_true (by omega)
      have e1 : uniEr l = 8 := by unfold uniEr; rw [if_pos hok, if_neg hb]
      have e2 : uniLs l = [] := if_neg (fun h => hb h.2)
      rw [e1, e2]
      simp only [sf_iuni11, putAll, wx, wy, wz, stV, seval, IntWalk.iteOmega, IntWalk.toNatUp, reduceCtorEq]
      refine st_call (cv) rfl (.inl rfl) ?_
      simp only [hb', wx, wy, wz, stV, seval, IntWalk.iteOmega, IntWalk.toNatUp, reduceCtorEq]
      exact ret_f2 (by simp only [wx, wy, wz, stV, seval, IntWalk.iteOmega, IntWalk.toNatUp, reduceCtorEq]) (by simp only [wx, wy, wz, stV, seval, IntWalk.iteOmega, IntWalk.toNatUp, reduceCtorEq])
theorem iuni11_c (G : Glob) (l : List Spn) (hl : l.length ≤ 9223372036854775807) : Den Try.prog G 34 [.sl (l.map spD)] (.tup [.c (.d (.sl ((uniLs l).map spD))), .c (.d (.int .i64 (uniEr l)))]) := den_ro2 (iuni11_f G l hl)
end Go.Proofs.Ytaodfdnncdelnaa
