/- The contracts of layer 1's functions on numbers and bytes: Put, Get, Same; what they return, and that nothing that was there is changed. -/

import Derived.Test.YtbfmabjpjblpaaaBase
import Derived.Laws.BitsLemmas
import Derived.Laws.Bits64
import Derived.Lib.Hide
set_option linter.unusedVariables false
set_option linter.unusedSimpArgs false
namespace Go.Proofs.Ytbfmabjpjblpaaa
open Go.RowKit



/-! ### Put -/
def putL (v n : Nat) : List UInt8 := (List.range n).map fun i => UInt8.ofNat (v / 256 ^ (n - 1 - i))
def putS (v n m : Nat) : List UInt8 := List.replicate m 0 ++ (putL v n).drop m
def putN (v : Nat) (n : Int) : List UInt8 := if 0 ≤ n ∧ n ≤ 64 then putL v n.toNat else []
theorem putL_length (v n : Nat) : (putL v n).length = n := by simp [putL]
theorem putS_length (v n m : Nat) (h : m ≤ n) : (putS v n m).length = n := by simp [putS, putL_length]; omega
theorem putS_zero (v n : Nat) : putS v n 0 = putL v n := by simp [putS]
theorem putS_full (v n : Nat) : putS v n n = List.replicate n 0 := by simp [putS, putL_length]
theorem putS_step (v n i : Nat) (h : i + 1 ≤ n) : vals (putS v n i) = (vals (putS v n (i + 1))).set i (.int .u8 ((v : Int) / 256 ^ (n - (i + 1)) % 256)) := by
  apply List.ext_getElem?
  intro j
  rw [List.getElem?_set]
  have hl : i < (putL v n).length := by rw [putL_length]; omega
  by_cases hj : i = j
  · subst hj
    rw [if_pos rfl, if_pos (by simp [vals, putS_length _ _ _ h]; omega)]
    simp only [vals, List.getElem?_map, putS, List.getElem?_append, List.length_replicate, Nat.lt_irrefl, if_false, Nat.sub_self, List.getElem?_drop, Nat.add_zero]
    rw [List.getElem?_eq_getElem hl]
    simp [putL, bv, Nat.sub_sub, Nat.add_comm 1 i]
  · rw [if_neg hj]
    simp only [vals, List.getElem?_map, putS, List.getElem?_append, List.length_replicate, List.getElem?_replicate, List.getElem?_drop]
    by_cases h1 : j < i
    · rw [if_pos h1, if_pos h1, if_pos (by omega), if_pos (by omega)]
    · rw [if_neg h1, if_neg (by omega)]
      congr 2; omega

set_option maxHeartbeats 400000 in
theorem put_in (v : Nat) (n : Nat) (hv : v < 18446744073709551616) (h1 : n ≤ 64) (w : World) :
    Calls Try.prog 14 #[.int .u64 v, .int .i64 n] w fun e w' => ∃ u, e = .returned u ∧ Own w' w.heap.size u (putL v n) ∧ Below w.heap.size w w' := by
  obtain ⟨i0, hi, hz0, hz1, hz2⟩ := info_parts info_u8
  go_enter Try.func14, Try.ntmps14
  go_wp2_with (at_make; refine wpList_make_full _ rfl _ _ 23 rfl w.heap.size 5 i0 _ 1 Try.underlying23 hi hz0 hz1 _ _ _ _ n rfl rfl rfl rfl (by rw [hz2]; omega) (by unfold maxLen; omega) (Nat.le_refl _) ?_; intro w1 hown hg)
  clear hi hz0 hz1 hz2
  go_loopw [0, 6] (fun a k wr => ∃ m : Nat, m ≤ n ∧ a = .int .u64 ((v / 256 ^ (n - m) : Nat) : Int) ∧ k = .int .i64 ((m : Int) - 1) ∧ wr.ownsRow w.heap.size 5 1 (.slice (some ⟨w.heap.size, 0, none⟩) n n) n (vals (putS v n m)) ∧ Below w.heap.size w wr)
    (fun _ k _ => (intOf k + 1).toNat)
  case atStart =>
    refine ⟨n, Nat.le_refl _, by simp, rfl, ?_, (Below.refl _ _).grown hg (Nat.le_refl _) (by simp)⟩
    rw [putS_full]; simpa [vals, bv, Value.cells, toList_madeCells_one] using hown
  case round =>
    obtain ⟨m, hm, rfl, rfl, ho, hb⟩ := hrel
    by_cases hlt : 0 < m
    · obtain ⟨i, rfl⟩ : ∃ i, m = i + 1 := ⟨m - 1, by omega⟩
      have e : ((i + 1 : Nat) : Int) - 1 = (i : Int) := by omega
      rw [e]
      have hc := (ho.cellAt i (by omega)).trans (vals_get _ i (by rw [putS_length _ _ _ hm]; omega))
      have hf := ho.frozenAt i
      go_wp2
      go_roundw
      case rel =>
        refine ⟨i, by omega, ?_, rfl, ?_, hb.setCell (Nat.le_refl _) _⟩
        · congr 1
          rw [show n - i = n - (i + 1) + 1 by omega, Nat.pow_succ, ← Nat.div_div_eq_div_mul]
          simp
        · rw [putS_step _ _ _ hm]
          exact (ho.stored i _).1
      case measure => simp [intOf] <;> omega
    · obtain rfl : m = 0 := by omega
      rw [putS_zero] at ho
      go_wp2
      go_ret
      exact ⟨_, rfl, by unfold Own; rw [putL_length]; exact ho, hb⟩

set_option maxHeartbeats 400000 in
theorem put_any (v : Nat) (n : Int) (hv : v < 18446744073709551616) (w : World) :
    Calls Try.prog 14 #[.int .u64 v, .int .i64 n] w fun e w' => ∃ u, e = .returned u ∧ Own w' w.heap.size u (putN v n) ∧ Below w.heap.size w w' := by
  unfold putN
  by_cases h : 0 ≤ n ∧ n ≤ 64
  · rw [if_pos h]
    obtain ⟨n, rfl⟩ := Int.eq_ofNat_of_zero_le h.1
    exact put_in v n hv (by omega) w
  · rw [if_neg h]
    by_cases h0 : n < 0
    · clear h
      go_enter Try.func14, Try.ntmps14
      go_wp2
      go_ret
      exact ⟨_, rfl, Own.nil _ _, Below.refl _ _⟩
    · have h1 : 64 < n := by omega
      clear h
      go_enter Try.func14, Try.ntmps14
      go_wp2
      go_ret
      exact ⟨_, rfl, Own.nil _ _, Below.refl _ _⟩
set_option maxHeartbeats 400000 in
theorem rput_in (v : Nat) (n : Nat) (hv : v < 18446744073709551616) (h1 : n ≤ 64) (w : World) :
    Calls Try.prog 15 #[.int .u64 v, .int .i64 n] w fun e w' => ∃ u, e = .returned u ∧ Own w' w.heap.size u (putL v n) ∧ Below w.heap.size w w' := by
  obtain ⟨i0, hi, hz0, hz1, hz2⟩ := info_parts info_u8
  go_enter Try.func15, Try.ntmps15
  go_wp2_with (at_make; refine wpList_make_full _ rfl _ _ 23 rfl w.heap.size 5 i0 _ 1 Try.underlying23 hi hz0 hz1 _ _ _ _ n rfl rfl rfl rfl (by rw [hz2]; omega) (by unfold maxLen; omega) (Nat.le_refl _) ?_; intro w1 hown hg)
  clear hi hz0 hz1 hz2
  go_loopw [0, 6] (fun a k wr => ∃ m : Nat, m ≤ n ∧ a = .int .u64 ((v / 256 ^ (n - m) : Nat) : Int) ∧ k = .int .i64 ((m : Int) - 1) ∧ wr.ownsRow w.heap.size 5 1 (.slice (some ⟨w.heap.size, 0, none⟩) n n) n (vals (putS v n m)) ∧ Below w.heap.size w wr)
    (fun _ k _ => (intOf k + 1).toNat)
  case atStart =>
    refine ⟨n, Nat.le_refl _, by simp, rfl, ?_, (Below.refl _ _).grown hg (Nat.le_refl _) (by simp)⟩
    rw [putS_full]; simpa [vals, bv, Value.cells, toList_madeCells_one] using hown
  case round =>
    obtain ⟨m, hm, rfl, rfl, ho, hb⟩ := hrel
    by_cases hlt : 0 < m
    · obtain ⟨i, rfl⟩ : ∃ i, m = i + 1 := ⟨m - 1, by omega⟩
      have e : ((i + 1 : Nat) : Int) - 1 = (i : Int) := by omega
      rw [e]
      have hc := (ho.cellAt i (by omega)).trans (vals_get _ i (by rw [putS_length _ _ _ hm]; omega))
      have hf := ho.frozenAt i
      go_wp2
      go_roundw
      case rel =>
        refine ⟨i, by omega, ?_, rfl, ?_, hb.setCell (Nat.le_refl _) _⟩
        · congr 1
          rw [show n - i = n - (i + 1) + 1 by omega, Nat.pow_succ, ← Nat.div_div_eq_div_mul]
          simp
        · rw [putS_step _ _ _ hm]
          exact (ho.stored i _).1
      case measure => simp [intOf] <;> omega
    · obtain rfl : m = 0 := by omega
      rw [putS_zero] at ho
      go_wp2
      go_ret
      exact ⟨_, rfl, by unfold Own; rw [putL_length]; exact ho, hb⟩

set_option maxHeartbeats 400000 in
theorem rput_any (v : Nat) (n : Int) (hv : v < 18446744073709551616) (w : World) :
    Calls Try.prog 15 #[.int .u64 v, .int .i64 n] w fun e w' => ∃ u, e = .returned u ∧ Own w' w.heap.size u (putN v n) ∧ Below w.heap.size w w' := by
  unfold putN
  by_cases h : 0 ≤ n ∧ n ≤ 64
  · rw [if_pos h]
    obtain ⟨n, rfl⟩ := Int.eq_ofNat_of_zero_le h.1
    exact rput_in v n hv (by omega) w
  · rw [if_neg h]
    by_cases h0 : n < 0
    · clear h
      go_enter Try.func15, Try.ntmps15
      go_wp2
      go_ret
      exact ⟨_, rfl, Own.nil _ _, Below.refl _ _⟩
    · have h1 : 64 < n := by omega
      clear h
      go_enter Try.func15, Try.ntmps15
      go_wp2
      go_ret
      exact ⟨_, rfl, Own.nil _ _, Below.refl _ _⟩

/-! ### Same -/
set_option maxHeartbeats 400000 in
theorem same_any (a b : Value) (l m : List UInt8) (w : World) (ha : Slc w a l) (hb : Slc w b m) :
    Calls Try.prog 13 #[a, b] w fun e w' => e = .returned (.bool (l == m)) ∧ w = w' := by
  have h1 := ha.str (P := Try.prog) 23 9 5 Try.underlying23 Try.underlying5 Try.underlying9
  have h2 := hb.str (P := Try.prog) 23 9 5 Try.underlying23 Try.underlying5 Try.underlying9
  go_enter Try.func13, Try.ntmps13
  go_wp2
  go_ret
  exact ⟨rfl, rfl⟩
set_option maxHeartbeats 400000 in
theorem rsame_any (a b : Value) (l m : List UInt8) (w : World) (ha : Slc w a l) (hb : Slc w b m) :
    Calls Try.prog 18 #[a, b] w fun e w' => e = .returned (.bool (l == m)) ∧ w = w' := by
  have h1 := ha.str (P := Try.prog) 23 9 5 Try.underlying23 Try.underlying5 Try.underlying9
  have h2 := hb.str (P := Try.prog) 23 9 5 Try.underlying23 Try.underlying5 Try.underlying9
  go_enter Try.func18, Try.ntmps18
  go_wp2
  go_ret
  exact ⟨rfl, rfl⟩
set_option maxHeartbeats 400000 in
theorem bequal_any (a b : Value) (l m : List UInt8) (w : World) (ha : Slc w a l) (hb : Slc w b m) :
    Calls Try.prog 32 #[a, b] w fun e w' => e = .returned (.bool (l == m)) ∧ w = w' := by
  have h1 := ha.str (P := Try.prog) 23 9 5 Try.underlying23 Try.underlying5 Try.underlying9
  have h2 := hb.str (P := Try.prog) 23 9 5 Try.underlying23 Try.underlying5 Try.underlying9
  go_enter Try.func32, Try.ntmps32
  go_wp2
  go_ret
  exact ⟨rfl, rfl⟩

/-! ### Get -/
def getN (l : List UInt8) : Nat := l.foldl (fun a x => (a * 256 + x.toNat) % 18446744073709551616) 0

theorem u64_in (n : Int) (h₀ : 0 ≤ n) (h₁ : n < 2 ^ 64) : IntKind.u64.wrap n = n := by rw [IntKind.wrap_u64]; omega
theorem getN_lt (l : List UInt8) : getN l < 18446744073709551616 := by
  unfold getN
  rcases List.eq_nil_or_concat l with rfl | ⟨a, x, rfl⟩
  · simp
  · simp only [List.concat_eq_append, List.foldl_append, List.foldl_cons, List.foldl_nil]; omega
theorem getN_snoc (a : List UInt8) (x : UInt8) : bits .or .u64 (IntKind.u64.wrap ((getN a : Int) * 256)) (x.toNat : Int) = (getN (a ++ [x]) : Int) := by
  have hx : x.toNat < 256 := x.toNat_lt
  have h1 := bits_join .u64 64 (by decide) u64_in 8 (IntKind.u64.wrap ((getN a : Int) * 256)) (x.toNat : Int)
    (by rw [IntKind.wrap_u64]; omega) (by rw [IntKind.wrap_u64]; omega) (by rw [IntKind.wrap_u64]; omega) (by omega) (by omega) (by omega)
  rw [h1, IntKind.wrap_u64]
  simp only [getN, List.foldl_append, List.foldl_cons, List.foldl_nil]
  omega
theorem getN_take (l : List UInt8) (j : Nat) (h : j < l.length) : (getN (l.take (j + 1)) : Int) = bits .or .u64 (IntKind.u64.wrap ((getN (l.take j) : Int) * 256)) (l[j].toNat : Int) := by
  rw [getN_snoc, List.take_succ_eq_append_getElem h]

set_option maxHeartbeats 400000 in
theorem rget_any (v : Value) (l : List UInt8) (w : World) (ha : Slc w v l) :
    Calls Try.prog 17 #[v] w fun e w' => e = .returned (.int .u64 (getN l)) ∧ w = w' := by
  obtain ⟨A, c, rfl, h1, h2, _, h3⟩ := ha
  unfold maxLen at h2
  go_enter Try.func17, Try.ntmps17
  go_wp2
  go_loop [3, 4] (fun a k => ∃ j : Nat, j ≤ l.length ∧ a = .int .u64 (getN (l.take j)) ∧ k = .int .i64 j) (fun _ k => l.length - (intOf k).toNat)
  case atStart => exact ⟨0, Nat.zero_le _, rfl, rfl⟩
  case round =>
    obtain ⟨j, hj, rfl, rfl⟩ := hrel
    by_cases hlt : j < l.length
    · obtain ⟨b, o, rfl, hb, hc⟩ := h3 (by omega)
      have hcj := hc j hlt
      clear hc h3
      unfold bv at hcj
      have hx : l[j].toNat < 256 := l[j].toNat_lt
      go_wp2
      go_roundw
      case rel =>
        exact ⟨j + 1, by omega, by rw [getN_take l j hlt], by go_num⟩
      case measure => simp [intOf] <;> omega
    · obtain rfl : j = l.length := by omega
      go_wp2
      go_ret
      exact ⟨by simp, rfl⟩
def valN (s : Nat) (l : List UInt8) : Nat := l.foldl (fun a x => a * 256 + x.toNat) s
theorem valN_mod (l : List UInt8) : ∀ s, l.foldl (fun a x => (a * 256 + x.toNat) % 18446744073709551616) (s % 18446744073709551616) = valN s l % 18446744073709551616 := by
  induction l with
  | nil => intro s; simp [valN]
  | cons x l ih =>
    intro s
    simp only [List.foldl_cons, valN]
    rw [show (s % 18446744073709551616 * 256 + x.toNat) % 18446744073709551616 = (s * 256 + x.toNat) % 18446744073709551616 by omega]
    exact ih _
theorem valN_start (l : List UInt8) : ∀ s, valN s l = s * 256 ^ l.length + valN 0 l := by
  induction l with
  | nil => intro s; simp [valN]
  | cons x l ih =>
    intro s
    show valN (s * 256 + x.toNat) l = _ + valN (0 * 256 + x.toNat) l
    rw [ih, ih (0 * 256 + x.toNat)]
    simp only [List.length_cons, Nat.pow_succ]
    rw [Nat.add_mul]
    simp only [Nat.zero_mul, Nat.zero_add, Nat.mul_assoc, Nat.mul_comm 256]
    omega
theorem getN_mod (l : List UInt8) : getN l = valN 0 l % 18446744073709551616 := by
  have := valN_mod l 0
  simpa [getN] using this
theorem getN_last (l : List UInt8) (h : 8 < l.length) : getN (l.drop (l.length - 8)) = getN l := by
  conv => rhs; rw [← List.take_append_drop (l.length - 8) l]
  rw [getN_mod, getN_mod]
  have e : valN 0 (l.take (l.length - 8) ++ l.drop (l.length - 8)) = valN (valN 0 (l.take (l.length - 8))) (l.drop (l.length - 8)) := by rw [valN, List.foldl_append]; rfl
  rw [e, valN_start _ (valN 0 _)]
  have h8 : (l.drop (l.length - 8)).length = 8 := by simp; omega
  rw [h8]
  omega

set_option maxHeartbeats 400000 in
theorem get_short (v : Value) (l : List UInt8) (w : World) (ha : Slc w v l) (h8 : l.length ≤ 8) :
    Calls Try.prog 16 #[v] w fun e w' => e = .returned (.int .u64 (getN l)) ∧ w = w' := by
  obtain ⟨A, c, rfl, h1, h2, _, h3⟩ := ha
  unfold maxLen at h2
  go_enter Try.func16, Try.ntmps16
  go_wp2
  go_loop [3, 16] (fun a k => ∃ j : Nat, j ≤ l.length ∧ a = .int .u64 (getN (l.take j)) ∧ k = .int .i64 j) (fun _ k => l.length - (intOf k).toNat)
  case atStart => exact ⟨0, Nat.zero_le _, rfl, rfl⟩
  case round =>
    obtain ⟨j, hj, rfl, rfl⟩ := hrel
    by_cases hlt : j < l.length
    · obtain ⟨b, o, rfl, hb, hc⟩ := h3 (by omega)
      have hcj := hc j hlt
      clear hc h3
      unfold bv at hcj
      have hx : l[j].toNat < 256 := l[j].toNat_lt
      go_wp2
      go_roundw
      case rel =>
        exact ⟨j + 1, by omega, by rw [getN_take l j hlt], by go_num⟩
      case measure => simp [intOf] <;> omega
    · obtain rfl : j = l.length := by omega
      go_wp2
      go_ret
      exact ⟨by simp, rfl⟩
set_option maxHeartbeats 400000 in
theorem get_long (v : Value) (l : List UInt8) (w : World) (ha : Slc w v l) (h8 : 8 < l.length) :
    Calls Try.prog 16 #[v] w fun e w' => e = .returned (.int .u64 (getN l)) ∧ w = w' := by
  obtain ⟨A, c, rfl, h1, h2, _, h3⟩ := ha
  unfold maxLen at h2
  obtain ⟨b, o, rfl, hb, hc⟩ := h3 (by omega)
  clear h3
  have hm : (l.drop (l.length - 8)).length = 8 := by simp; omega
  have hmc : ∀ j (h : j < (l.drop (l.length - 8)).length), w.cell? ⟨b, o + (l.length - 8) + j, none⟩ = some (bv (l.drop (l.length - 8))[j]) := by
    intro j h
    rw [Nat.add_assoc, hc _ (by omega), List.getElem_drop]
  rw [← getN_last l h8]
  generalize l.drop (l.length - 8) = m at *
  clear hc
  have Hm := Lib.hid hm; clear hm
  have Hmc := Lib.hid hmc; clear hmc
  go_enter Try.func16, Try.ntmps16
  go_wp2
  go_loop [3, 16] (fun a k => ∃ j : Nat, j ≤ 8 ∧ a = .int .u64 (getN (m.take j)) ∧ k = .int .i64 j) (fun _ k => 8 - (intOf k).toNat)
  case atStart => exact ⟨0, Nat.zero_le _, rfl, rfl⟩
  case round =>
    obtain ⟨j, hj, rfl, rfl⟩ := hrel
    by_cases hlt : j < 8
    · have hjm : j < m.length := by rw [Hm.out]; exact hlt
      have hcj := Hmc.out j hjm
      unfold bv at hcj
      have hx : m[j].toNat < 256 := m[j].toNat_lt
      go_wp2
      go_roundw
      case rel =>
        exact ⟨j + 1, by omega, by rw [getN_take m j hjm], by go_num⟩
      case measure => simp [intOf] <;> omega
    · obtain rfl : j = 8 := by omega
      go_wp2
      go_ret
      exact ⟨by rw [List.take_of_length_le (by rw [Hm.out]; omega)]; rfl, rfl⟩
theorem get_any (v : Value) (l : List UInt8) (w : World) (ha : Slc w v l) :
    Calls Try.prog 16 #[v] w fun e w' => e = .returned (.int .u64 (getN l)) ∧ w = w' := by
  by_cases h : l.length ≤ 8
  · exact get_short v l w ha h
  · exact get_long v l w ha (by omega)
end Go.Proofs.Ytbfmabjpjblpaaa
