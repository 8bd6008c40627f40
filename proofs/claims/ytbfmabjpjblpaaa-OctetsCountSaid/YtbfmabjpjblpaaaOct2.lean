/- The contracts of layer 1's Join. -/
import Derived.Test.YtbfmabjpjblpaaaOct1
import Derived.Deep.RegionWith
set_option linter.unusedVariables false
set_option linter.unusedSimpArgs false
namespace Go.Proofs.Ytbfmabjpjblpaaa
open Go.RowKit

/-! ### Join -/
def sumLen (ls : List (List UInt8)) : Nat := (ls.map List.length).sum
theorem sumLen_take (ls : List (List UInt8)) (j : Nat) (h : j < ls.length) : sumLen (ls.take (j + 1)) = sumLen (ls.take j) + ls[j].length := by
  rw [List.take_succ_eq_append_getElem h]
  simp only [sumLen, List.map_append, List.sum_append, List.map_cons, List.map_nil, List.sum_cons, List.sum_nil, Nat.add_zero]
theorem sumLen_le (ls : List (List UInt8)) (j : Nat) : sumLen (ls.take j) ≤ sumLen ls := by
  conv => rhs; rw [← List.take_append_drop j ls]
  simp only [sumLen, List.map_append, List.sum_append]; omega
theorem flat_take (ls : List (List UInt8)) (j : Nat) (h : j < ls.length) : (ls.take (j + 1)).flatten = (ls.take j).flatten ++ ls[j] := by
  rw [List.take_succ_eq_append_getElem h]
  simp only [List.flatten_append, List.flatten_cons, List.flatten_nil, List.append_nil]
theorem flat_len (ls : List (List UInt8)) : ls.flatten.length = sumLen ls := by simp [sumLen, List.length_flatten]

set_option maxHeartbeats 400000 in
theorem rjoin_any (v : Value) (ls : List (List UInt8)) (w : World) (hv : Slcs w v ls) (hl : sumLen ls ≤ 1099511627776) :
    Calls Try.prog 31 #[v] w fun e w' => ∃ u, e = .returned u ∧ Own w' w.heap.size u ls.flatten ∧ Below w.heap.size w w' := by
  obtain ⟨A, c, rfl, h1, h2, hn, h3⟩ := hv
  unfold maxLen at h2
  go_enter Try.func31, Try.ntmps31
  go_wp2
  go_loopw [3, 4] (fun a k wr => ∃ j : Nat, j ≤ ls.length ∧ Own wr w.heap.size a (ls.take j).flatten ∧ k = .int .i64 j ∧ Below w.heap.size w wr) (fun _ k _ => ls.length - (intOf k).toNat)
  case atStart => exact ⟨0, Nat.zero_le _, Own.lit w _ [] #[] 0 rfl rfl (Nat.le_refl _) (by simp [maxLen]), rfl, (Below.refl _ _).alloc (Nat.le_refl _) _⟩
  case round =>
    obtain ⟨j, hj, ho, rfl, hb⟩ := hrel
    rename_i a
    by_cases hlt : j < ls.length
    · obtain ⟨b, o, rfl, hbb, hc⟩ := h3 (by omega)
      obtain ⟨u, hcj, hu⟩ := hc j hlt
      have hcw : wr.cell? ⟨b, o + j, none⟩ = some u := (hb.cell (p := ⟨b, o + j, none⟩) hbb).trans hcj
      have huw := hu.below hb
      have hs1 := sumLen_le ls (j + 1)
      rw [sumLen_take ls j hlt, ← flat_len] at hs1
      clear hc h3 hcj hu
      go_wp2_with (at_builtin; refine wpList_app wr rfl _ _ rfl w.heap.size _ _ rfl ho _ _ rfl huw (by omega) hb.size ?_; intro v' w1 ho' hg)
      have hb' := hb.grown hg hb.size ho.base
      clear ho
      go_wp2
      go_roundw
      case rel => exact ⟨j + 1, by omega, by rw [flat_take ls j hlt]; exact ho', by go_num, hb'⟩
      case measure => simp [intOf] <;> omega
    · obtain rfl : j = ls.length := by omega
      rw [List.take_length] at *
      go_wp2
      go_ret
      exact ⟨_, rfl, ho, hb⟩
set_option maxHeartbeats 400000 in
theorem join_any (v : Value) (ls : List (List UInt8)) (w : World) (hv : Slcs w v ls) (hl : sumLen ls ≤ 1099511627776) :
    Calls Try.prog 21 #[v] w fun e w' => ∃ u, e = .returned u ∧ Own w' w.heap.size u ls.flatten ∧ Below w.heap.size w w' := by
  obtain ⟨i0, hi, hz0, hz1, hz2⟩ := info_parts info_u8
  obtain ⟨A, c, rfl, h1, h2, hn, h3⟩ := hv
  unfold maxLen at h2
  go_enter Try.func21, Try.ntmps21
  go_wp2
  go_loop [3, 5, 11] (fun a _ k => ∃ j : Nat, j ≤ ls.length ∧ a = .int .i64 (sumLen (ls.take j)) ∧ k = .int .i64 j) (fun _ _ k => ls.length - (intOf k).toNat)
  case atStart => exact ⟨0, Nat.zero_le _, rfl, rfl⟩
  case round =>
    obtain ⟨j, hj, rfl, rfl⟩ := hrel
    have hs1 := sumLen_le ls j
    by_cases hlt : j < ls.length
    · obtain ⟨b, o, rfl, hb, hc⟩ := h3 (by omega)
      obtain ⟨u, hcj, A', c', rfl, g1, g2, _, _⟩ := hc j hlt
      have hs2 := sumLen_le ls (j + 1)
      have hs3 := sumLen_take ls j hlt
      have Hs3 := Lib.hid hs3
      rw [hs3] at hs2
      clear hc h3 hs3
      go_wp2
      go_roundw
      case rel => exact ⟨j + 1, by omega, by rw [Hs3.out]; go_num, by go_num⟩
      case measure => simp [intOf] <;> omega
    · obtain rfl : j = ls.length := by omega
      rw [List.take_length] at *
      go_wp2_with (at_make; refine wpList_make_own _ rfl _ _ 23 rfl w.heap.size 5 i0 _ 1 Try.underlying23 hi hz0 hz1 _ _ _ (sumLen ls) rfl rfl rfl (by rw [hz2]; omega) (by unfold maxLen; omega) (Nat.le_refl _) ?_; intro w1 hown hg)
      clear hi hz0 hz1 hz2
      go_loopw [6, 8, 24] (fun a _ k wr => ∃ j : Nat, j ≤ ls.length ∧ Own wr w.heap.size a (ls.take j).flatten ∧ k = .int .i64 j ∧ Below w.heap.size w wr) (fun _ _ k _ => ls.length - (intOf k).toNat)
      case atStart => exact ⟨0, Nat.zero_le _, hown, rfl, (Below.refl _ _).grown hg (Nat.le_refl _) (by simp)⟩
      case round =>
        obtain ⟨j, hj, ho, rfl, hb⟩ := hrel
        by_cases hlt : j < ls.length
        · obtain ⟨b, o, rfl, hbb, hc⟩ := h3 (by omega)
          obtain ⟨u, hcj, hu⟩ := hc j hlt
          have hcw : wr.cell? ⟨b, o + j, none⟩ = some u := (hb.cell (p := ⟨b, o + j, none⟩) hbb).trans hcj
          have huw := hu.below hb
          have hs1 := sumLen_le ls (j + 1)
          rw [sumLen_take ls j hlt, ← flat_len] at hs1
          clear hc h3 hcj hu
          go_wp2_with (at_builtin; refine wpList_app wr rfl _ _ rfl w.heap.size _ _ rfl ho _ _ rfl huw (by omega) hb.size ?_; intro v' w2 ho' hg')
          have hb' := hb.grown hg' hb.size ho.base
          clear ho
          go_wp2
          go_roundw
          case rel => exact ⟨j + 1, by omega, by rw [flat_take ls j hlt]; exact ho', by go_num, hb'⟩
          case measure => simp [intOf] <;> omega
        · obtain rfl : j = ls.length := by omega
          rw [List.take_length] at *
          go_wp2
          go_ret
          exact ⟨_, rfl, ho, hb⟩
/-! ### Cut -/
def cutOk (l : List UInt8) (n : Int) : Bool := decide (0 ≤ n ∧ n ≤ l.length)
def cut1 (l : List UInt8) (n : Int) : List UInt8 := if cutOk l n = true then l.take n.toNat else []
def cut2 (l : List UInt8) (n : Int) : List UInt8 := if cutOk l n = true then l.drop n.toNat else []
set_option maxHeartbeats 400000 in
theorem cut_in (v : Value) (l : List UInt8) (n : Nat) (w : World) (hv : Slc w v l) (hl : l.length ≤ 1099511627776) (hn : n ≤ l.length) :
    Calls Try.prog 11 #[v, .int .i64 n] w fun e w' => ∃ u1 u2, e = .returned (.tuple #[u1, u2, .bool true]) ∧ Own w' w.heap.size u1 (l.take n) ∧ Own w' w.heap.size u2 (l.drop n) ∧ Below w.heap.size w w' := by
  have hlen := lenV hv
  obtain ⟨A1, c1, hv1, e1⟩ := cutH hv n hn
  obtain ⟨A2, c2, hv2, e2⟩ := cutL hv n hn
  have a1 := (Slcs.one w _ _ 23 hv1).drew
  have a2 := ((Slcs.one w _ _ 23 hv1).alloc (.cells #[.slice A2 (l.length - n) c2] 23)).drew
  have a3 := (Slcs.at1 (w.alloc (.cells #[.slice A2 (l.length - n) c2] 23)) _ _ 23 (w.heap.size + 1) (by simp) (hv1.alloc _)).drew
  go_enter Try.func11, Try.ntmps11
  go_wp2
  go_region_with (first
    | (go_at_call 21; refine (join_any _ _ _ (by first | exact a1 | exact a2 | exact a3) (by simp [sumLen]; omega)).mono ?_; rintro e w1 ⟨u1, rfl, ho1, hb1⟩)
    | (go_at_call 21; refine (join_any _ _ _ (by first | exact Slcs.one _ _ _ _ ((hv2.alloc _).drew.below hb1) | exact (Slcs.at1 (w.alloc _) _ _ _ _ (by simp) (hv2.alloc _)).drew.below hb1 | exact ((Slcs.one w _ _ _ hv2).alloc _).drew.below hb1) (by simp [sumLen]; omega)).mono ?_; rintro e w2 ⟨u2, rfl, ho2, hb2⟩))
  all_goals
    have k1 : Below w.heap.size w w1 := by
      first
        | exact ((Below.refl _ _).alloc (Nat.le_refl _) _).drew.trans (hb1.mono (by simp))
        | exact (((Below.refl _ _).alloc (Nat.le_refl _) _).alloc (by simp) _).drew.trans (hb1.mono (by simp <;> omega))
    have k2 : Below w1.heap.size w1 w2 := by
      first
        | exact hb2
        | exact ((Below.refl _ _).alloc (Nat.le_refl _) _).trans (hb2.mono (by simp))
    have o1 : Own w2 w.heap.size u1 (l.take n) := by
      have := (ho1.mono (B' := w.heap.size) (by simp <;> omega)).below k2
      simpa using this
    have o2 : Own w2 w.heap.size u2 (l.drop n) := by
      have := ho2.mono (B' := w.heap.size) (by have := k1.size; simp <;> omega)
      simpa using this
    clear ho1 ho2 hb1 hb2
    go_wp2
    go_ret3
    exact ⟨_, _, rfl, o1, o2, k1.trans (k2.mono k1.size)⟩
set_option maxHeartbeats 400000 in
theorem cut_out (v : Value) (l : List UInt8) (n : Int) (w : World) (hv : Slc w v l) (hn : n < 0 ∨ (l.length : Int) < n) :
    Calls Try.prog 11 #[v, .int .i64 n] w fun e w' => e = .returned (.tuple #[.slice none 0 0, .slice none 0 0, .bool false]) ∧ w = w' := by
  have hlen := lenV hv
  rcases hn with hn | hn
  · go_enter Try.func11, Try.ntmps11
    go_wp2
    go_ret3
    exact ⟨rfl, rfl⟩
  · have h0 : ¬ n < 0 := by omega
    go_enter Try.func11, Try.ntmps11
    go_wp2
    go_ret3
    exact ⟨rfl, rfl⟩
theorem cut_any (v : Value) (l : List UInt8) (n : Int) (w : World) (hv : Slc w v l) (hl : l.length ≤ 1099511627776) :
    Calls Try.prog 11 #[v, .int .i64 n] w fun e w' => ∃ u1 u2, e = .returned (.tuple #[u1, u2, .bool (cutOk l n)]) ∧ Own w' w.heap.size u1 (cut1 l n) ∧ Own w' w.heap.size u2 (cut2 l n) ∧ Below w.heap.size w w' := by
  by_cases h : 0 ≤ n ∧ n ≤ l.length
  · have hk : cutOk l n = true := decide_eq_true h
    obtain ⟨k, rfl⟩ := Int.eq_ofNat_of_zero_le h.1
    unfold cut1 cut2
    rw [if_pos hk, if_pos hk, hk]
    exact cut_in v l k w hv hl (by omega)
  · have hk : cutOk l n = false := decide_eq_false h
    unfold cut1 cut2
    rw [if_neg (by rw [hk]; decide), if_neg (by rw [hk]; decide), hk]
    refine (cut_out v l n w hv (by omega)).mono ?_
    rintro e w' ⟨rfl, rfl⟩
    exact ⟨_, _, rfl, Own.nil _ _, Own.nil _ _, Below.refl _ _⟩
set_option maxHeartbeats 400000 in
theorem rcut_in (v : Value) (l : List UInt8) (n : Nat) (w : World) (hv : Slc w v l) (hl : l.length ≤ 1099511627776) (hn : n ≤ l.length) :
    Calls Try.prog 12 #[v, .int .i64 n] w fun e w' => ∃ u1 u2, e = .returned (.tuple #[u1, u2, .bool true]) ∧ Own w' w.heap.size u1 (l.take n) ∧ Own w' w.heap.size u2 (l.drop n) ∧ Below w.heap.size w w' := by
  have hlen := lenV hv
  obtain ⟨A1, c1, hv1, e1⟩ := cutH hv n hn
  obtain ⟨A2, c2, hv2, e2⟩ := cutL hv n hn
  have a1 := (Slcs.one w _ _ 23 hv1).drew
  have a2 := ((Slcs.one w _ _ 23 hv1).alloc (.cells #[.slice A2 (l.length - n) c2] 23)).drew
  have a3 := (Slcs.at1 (w.alloc (.cells #[.slice A2 (l.length - n) c2] 23)) _ _ 23 (w.heap.size + 1) (by simp) (hv1.alloc _)).drew
  go_enter Try.func12, Try.ntmps12
  go_wp2
  go_region_with (first
    | (go_at_call 31; refine (rjoin_any _ _ _ (by first | exact a1 | exact a2 | exact a3) (by simp [sumLen]; omega)).mono ?_; rintro e w1 ⟨u1, rfl, ho1, hb1⟩)
    | (go_at_call 31; refine (rjoin_any _ _ _ (by first | exact Slcs.one _ _ _ _ ((hv2.alloc _).drew.below hb1) | exact (Slcs.at1 (w.alloc _) _ _ _ _ (by simp) (hv2.alloc _)).drew.below hb1 | exact ((Slcs.one w _ _ _ hv2).alloc _).drew.below hb1) (by simp [sumLen]; omega)).mono ?_; rintro e w2 ⟨u2, rfl, ho2, hb2⟩))
  all_goals
    have k1 : Below w.heap.size w w1 := by
      first
        | exact ((Below.refl _ _).alloc (Nat.le_refl _) _).drew.trans (hb1.mono (by simp))
        | exact (((Below.refl _ _).alloc (Nat.le_refl _) _).alloc (by simp) _).drew.trans (hb1.mono (by simp <;> omega))
    have k2 : Below w1.heap.size w1 w2 := by
      first
        | exact hb2
        | exact ((Below.refl _ _).alloc (Nat.le_refl _) _).trans (hb2.mono (by simp))
    have o1 : Own w2 w.heap.size u1 (l.take n) := by
      have := (ho1.mono (B' := w.heap.size) (by simp <;> omega)).below k2
      simpa using this
    have o2 : Own w2 w.heap.size u2 (l.drop n) := by
      have := ho2.mono (B' := w.heap.size) (by have := k1.size; simp <;> omega)
      simpa using this
    clear ho1 ho2 hb1 hb2
    go_wp2
    go_ret3
    exact ⟨_, _, rfl, o1, o2, k1.trans (k2.mono k1.size)⟩
set_option maxHeartbeats 400000 in
theorem rcut_out (v : Value) (l : List UInt8) (n : Int) (w : World) (hv : Slc w v l) (hn : n < 0 ∨ (l.length : Int) < n) :
    Calls Try.prog 12 #[v, .int .i64 n] w fun e w' => e = .returned (.tuple #[.slice none 0 0, .slice none 0 0, .bool false]) ∧ w = w' := by
  have hlen := lenV hv
  rcases hn with hn | hn
  · go_enter Try.func12, Try.ntmps12
    go_wp2
    go_ret3
    exact ⟨rfl, rfl⟩
  · have h0 : ¬ n < 0 := by omega
    go_enter Try.func12, Try.ntmps12
    go_wp2
    go_ret3
    exact ⟨rfl, rfl⟩
theorem rcut_any (v : Value) (l : List UInt8) (n : Int) (w : World) (hv : Slc w v l) (hl : l.length ≤ 1099511627776) :
    Calls Try.prog 12 #[v, .int .i64 n] w fun e w' => ∃ u1 u2, e = .returned (.tuple #[u1, u2, .bool (cutOk l n)]) ∧ Own w' w.heap.size u1 (cut1 l n) ∧ Own w' w.heap.size u2 (cut2 l n) ∧ Below w.heap.size w w' := by
  by_cases h : 0 ≤ n ∧ n ≤ l.length
  · have hk : cutOk l n = true := decide_eq_true h
    obtain ⟨k, rfl⟩ := Int.eq_ofNat_of_zero_le h.1
    unfold cut1 cut2
    rw [if_pos hk, if_pos hk, hk]
    exact rcut_in v l k w hv hl (by omega)
  · have hk : cutOk l n = false := decide_eq_false h
    unfold cut1 cut2
    rw [if_neg (by rw [hk]; decide), if_neg (by rw [hk]; decide), hk]
    refine (rcut_out v l n w hv (by omega)).mono ?_
    rintro e w' ⟨rfl, rfl⟩
    exact ⟨_, _, rfl, Own.nil _ _, Own.nil _ _, Below.refl _ _⟩

/-! ### Pad -/
def padL (l : List UInt8) (n : Int) : List UInt8 := if 1 ≤ n ∧ n ≤ 64 then l ++ List.replicate ((n - (l.length : Int) % n) % n).toNat 0 else l
set_option maxHeartbeats 400000 in
theorem pad_out (v : Value) (l : List UInt8) (n : Int) (w : World) (hv : Slc w v l) (hl : l.length ≤ 549755813888) (hn : n < 1 ∨ 64 < n) :
    Calls Try.prog 19 #[v, .int .i64 n] w fun e w' => ∃ u, e = .returned u ∧ Own w' w.heap.size u l ∧ Below w.heap.size w w' := by
  have hlen := lenV hv
  obtain ⟨A1, c1, rfl, _⟩ := id hv
  have a1 := Slcs.one w _ _ 23 hv
  rcases hn with hn | hn
  all_goals
    (try (have h0 : ¬ n < 1 := by omega))
    go_enter Try.func19, Try.ntmps19
    go_wp2_with (go_at_call 21; refine (join_any _ _ _ a1 (by simp [sumLen]; omega)).mono ?_; rintro e w1 ⟨u1, rfl, ho1, hb1⟩)
    go_ret
    exact ⟨_, rfl, by simpa using ho1.mono (B' := w.heap.size) (by simp), ((Below.refl _ _).alloc (Nat.le_refl _) _).trans (hb1.mono (by simp))⟩
theorem putN_zero (m : Nat) (h : m ≤ 64) : putN 0 (m : Int) = List.replicate m 0 := by
  unfold putN
  rw [if_pos (by omega)]
  apply List.ext_getElem <;> simp [putL]
set_option maxHeartbeats 400000 in
theorem pad_in (v : Value) (l : List UInt8) (n m : Nat) (w : World) (hv : Slc w v l) (hl : l.length ≤ 549755813888) (hn1 : 1 ≤ n) (hn2 : n ≤ 64) (hm : -((l.length : Int) % n) % n = m) (hm64 : m ≤ 64) :
    Calls Try.prog 19 #[v, .int .i64 n] w fun e w' => ∃ u, e = .returned u ∧ Own w' w.heap.size u (l ++ List.replicate m 0) ∧ Below w.heap.size w w' := by
  have hlen := lenV hv
  have Hm := Lib.hid hm; clear hm
  obtain ⟨A1, c1, rfl, _⟩ := id hv
  have hle : (l.length : Int) % n ≤ n := by have := Int.emod_lt_of_pos (l.length : Int) (b := n) (by omega); omega
  go_enter Try.func19, Try.ntmps19
  go_wp2_with (first
    | (go_at_call 14; refine (put_any 0 _ (by decide) _).mono ?_; rintro e w1 ⟨u1, rfl, ho1, hb1⟩; rw [Hm.out, putN_zero m hm64] at ho1; obtain ⟨A2, c2, rfl⟩ := ho1.shape m (by simp))
    | (go_at_call 21; refine (join_any _ _ _ (Slcs.two w1 _ _ _ _ 23 (hv.below hb1) ho1.slc) (by simp [sumLen]; omega)).mono ?_; rintro e w2 ⟨u2, rfl, ho2, hb2⟩))
  go_ret
  have k2 : Below w1.heap.size w1 w2 := ((Below.refl _ _).alloc (Nat.le_refl _) _).trans (hb2.mono (by simp))
  exact ⟨_, rfl, by simpa using ho2.mono (B' := w.heap.size) (by have := hb1.size; simp; omega), hb1.trans (k2.mono hb1.size)⟩
theorem pad_any (v : Value) (l : List UInt8) (n : Int) (w : World) (hv : Slc w v l) (hl : l.length ≤ 549755813888) :
    Calls Try.prog 19 #[v, .int .i64 n] w fun e w' => ∃ u, e = .returned u ∧ Own w' w.heap.size u (padL l n) ∧ Below w.heap.size w w' := by
  unfold padL
  by_cases h : 1 ≤ n ∧ n ≤ 64
  · rw [if_pos h]
    obtain ⟨n, rfl⟩ := Int.eq_ofNat_of_zero_le (show 0 ≤ n by omega)
    have h1 := Int.emod_nonneg (-((l.length : Int) % n)) (b := n) (by omega)
    have h2 := Int.emod_lt_of_pos (-((l.length : Int) % n)) (b := n) (by omega)
    have e : ((n : Int) - (l.length : Int) % n) % n = -((l.length : Int) % n) % n := by
      rw [Int.sub_eq_add_neg, Int.add_comm, Int.add_emod_right]
    rw [e]
    exact pad_in v l n _ w hv hl (by omega) (by omega) (by omega) (by omega)
  · rw [if_neg h]
    exact pad_out v l n w hv hl (by omega)

set_option maxHeartbeats 400000 in
theorem rpad_out (v : Value) (l : List UInt8) (n : Int) (w : World) (hv : Slc w v l) (hl : l.length ≤ 549755813888) (hn : n < 1 ∨ 64 < n) :
    Calls Try.prog 20 #[v, .int .i64 n] w fun e w' => ∃ u, e = .returned u ∧ Own w' w.heap.size u l ∧ Below w.heap.size w w' := by
  obtain ⟨A1, c1, rfl, _⟩ := id hv
  have a1 := Slcs.one w _ _ 23 hv
  rcases hn with hn | hn
  all_goals
    (try (have h0 : 1 ≤ n := by omega))
    go_enter Try.func20, Try.ntmps20
    go_wp2_with (go_at_call 31; refine (rjoin_any _ _ _ a1 (by simp [sumLen]; omega)).mono ?_; rintro e w1 ⟨u1, rfl, ho1, hb1⟩)
    refine wp_loop_rounds 1 ?_; rw [rounds_succ]
    go_wp2
    go_ret
    exact ⟨_, rfl, by simpa using ho1.mono (B' := w.heap.size) (by simp), ((Below.refl _ _).alloc (Nat.le_refl _) _).trans (hb1.mono (by simp))⟩
set_option maxHeartbeats 400000 in
theorem rpad_in (v : Value) (l : List UInt8) (n m : Nat) (w : World) (hv : Slc w v l) (hl : l.length ≤ 549755813888) (hn1 : 1 ≤ n) (hn2 : n ≤ 64) (hm0 : ∀ k, k < m → (l.length + k) % n ≠ 0) (hm : (l.length + m) % n = 0) (hm64 : m ≤ 64) :
    Calls Try.prog 20 #[v, .int .i64 n] w fun e w' => ∃ u, e = .returned u ∧ Own w' w.heap.size u (l ++ List.replicate m 0) ∧ Below w.heap.size w w' := by
  obtain ⟨A1, c1, rfl, _⟩ := id hv
  have a1 := Slcs.one w _ _ 23 hv
  have Hm := Lib.hid hm; clear hm
  have Hm0 := Lib.hid hm0; clear hm0
  go_enter Try.func20, Try.ntmps20
  go_wp2_with (go_at_call 31; refine (rjoin_any _ _ _ a1 (by simp [sumLen]; omega)).mono ?_; rintro e w1 ⟨u1, rfl, ho1, hb1⟩)
  go_loopw [5] (fun u wr => ∃ k : Nat, k ≤ m ∧ Own wr w.heap.size u (l ++ List.replicate k 0) ∧ Below w.heap.size w wr) (fun u _ => l.length + m - slen u)
  case atStart => exact ⟨0, Nat.zero_le _, by simpa using ho1.mono (B' := w.heap.size) (by simp), ((Below.refl _ _).alloc (Nat.le_refl _) _).trans (hb1.mono (by simp))⟩
  case round =>
    obtain ⟨k, hk, ho, hb⟩ := hrel
    rename_i u
    have hlen := lenV ho.slc
    have e1 : (l ++ List.replicate k (0 : UInt8)).length = l.length + k := by simp
    rw [e1] at hlen
    clear e1
    by_cases hlt : k < m
    · have h0 : (((l.length : Int) + k) % n == 0) = false := by
        have := Hm0.out k hlt
        rw [beq_eq_false_iff_ne]
        intro h; apply this; exact_mod_cast h
      have hs1 : (l ++ List.replicate k (0 : UInt8)).length + 1 ≤ 1099511627776 := by simp; omega
      go_wp2_with (at_builtin; refine wpList_app _ rfl _ _ rfl w.heap.size _ _ rfl (ho.alloc _) _ _ rfl (Slc.byte wr 0) (by exact hs1) (by have := hb.size; simp; omega) ?_; intro v' w2 ho' hg)
      have hb' := (hb.alloc hb.size _).grown hg (by have := hb.size; simp; omega) ho.base
      rw [List.append_assoc, ← List.replicate_succ'] at ho'
      have hl1 := slen_own ho
      have hl2 := slen_own ho'
      clear ho
      go_wp2
      go_roundw
      case rel => exact ⟨k + 1, by omega, ho', hb'⟩
      case measure => rw [hl1, hl2]; simp <;> omega
    · obtain rfl : k = m := by omega
      have h0 : (((l.length : Int) + k) % n == 0) = true := by
        have := Hm.out
        rw [beq_iff_eq]
        exact_mod_cast this
      go_wp2
      go_ret
      exact ⟨_, rfl, ho, hb⟩
theorem pad_least (a n : Nat) (hn : 0 < n) : (∀ k, k < (n - a % n) % n → (a + k) % n ≠ 0) ∧ (a + (n - a % n) % n) % n = 0 ∧ (n - a % n) % n < n := by
  have hr := Nat.mod_lt a hn
  by_cases h0 : a % n = 0
  · rw [h0, Nat.sub_zero, Nat.mod_self]
    exact ⟨fun k hk => by omega, by simpa using h0, hn⟩
  · have e : (n - a % n) % n = n - a % n := Nat.mod_eq_of_lt (by omega)
    rw [e]
    refine ⟨fun k hk => ?_, ?_, by omega⟩
    · rw [Nat.add_mod, Nat.mod_eq_of_lt (show k < n by omega), Nat.mod_eq_of_lt (by omega)]; omega
    · rw [Nat.add_mod, Nat.mod_eq_of_lt (show n - a % n < n by omega), show a % n + (n - a % n) = n by omega, Nat.mod_self]
theorem pad_cast (a n : Nat) (hn : 0 < n) : (((n : Int) - (a : Int) % n) % n).toNat = (n - a % n) % n := by
  have hr := Nat.mod_lt a hn
  have e : (((n : Int) - (a : Int) % n) % n) = (((n - a % n) % n : Nat) : Int) := by
    rw [Int.natCast_emod, Int.natCast_sub (by omega), Int.natCast_emod]
  rw [e, Int.toNat_natCast]
theorem rpad_any (v : Value) (l : List UInt8) (n : Int) (w : World) (hv : Slc w v l) (hl : l.length ≤ 549755813888) :
    Calls Try.prog 20 #[v, .int .i64 n] w fun e w' => ∃ u, e = .returned u ∧ Own w' w.heap.size u (padL l n) ∧ Below w.heap.size w w' := by
  unfold padL
  by_cases h : 1 ≤ n ∧ n ≤ 64
  · rw [if_pos h]
    obtain ⟨n, rfl⟩ := Int.eq_ofNat_of_zero_le (show 0 ≤ n by omega)
    obtain ⟨h1, h2, h3⟩ := pad_least l.length n (by omega)
    rw [pad_cast _ _ (by omega)]
    exact rpad_in v l n _ w hv hl (by omega) (by omega) h1 h2 (by omega)
  · rw [if_neg h]
    exact rpad_out v l n w hv hl (by omega)

end Go.Proofs.Ytbfmabjpjblpaaa
