/- The contracts of layer 1's Hex and Unhex. -/
import Derived.Test.YtbfmabjpjblpaaaOct2
import Derived.Deep.RegionLaw
set_option linter.unusedVariables false
set_option linter.unusedSimpArgs false
namespace Go.Proofs.Ytbfmabjpjblpaaa
open Go.RowKit

/-! ### Hex -/
def hexD (x : Nat) : UInt8 := if x < 10 then UInt8.ofNat (48 + x) else UInt8.ofNat (87 + x)
def hexL (l : List UInt8) : List UInt8 := l.flatMap fun x => [hexD (x.toNat / 16), hexD (x.toNat % 16)]
set_option maxHeartbeats 400000 in
theorem rdigit_any (x : Nat) (hx : x < 16) (w : World) :
    Calls Try.prog 34 #[.int .i64 x] w fun e w' => e = .returned (.int .u8 (hexD x).toNat) ∧ w = w' := by
  by_cases h : x < 10
  · have e0 : (hexD x).toNat = 48 + x := by unfold hexD; rw [if_pos h]; simp; omega
    rw [e0]
    go_enter Try.func34, Try.ntmps34
    go_wp2
    go_ret
    exact ⟨by simp, rfl⟩
  · have e0 : (hexD x).toNat = 87 + x := by unfold hexD; rw [if_neg h]; simp; omega
    rw [e0]
    go_enter Try.func34, Try.ntmps34
    go_wp2
    go_ret
    exact ⟨by show Ending.returned (Value.int .u8 (97 + (x : Int) - 10)) = _; congr 2; omega, rfl⟩
def hexZ (z : Int) : Int := (hexD z.toNat).toNat
theorem rdigit_int (z : Int) (h0 : 0 ≤ z) (h1 : z < 16) (w : World) :
    Calls Try.prog 34 #[.int .i64 z] w fun e w' => e = .returned (.int .u8 (hexZ z)) ∧ w = w' := by
  obtain ⟨x, rfl⟩ := Int.eq_ofNat_of_zero_le h0
  exact rdigit_any x (by omega) w
theorem hexL_take (l : List UInt8) (j : Nat) (h : j < l.length) : hexL (l.take (j + 1)) = hexL (l.take j) ++ [hexD (l[j].toNat / 16), hexD (l[j].toNat % 16)] := by
  rw [List.take_succ_eq_append_getElem h]
  simp only [hexL, List.flatMap_append, List.flatMap_cons, List.flatMap_nil, List.append_nil]
theorem hexL_length (l : List UInt8) : (hexL l).length = 2 * l.length := by
  induction l with
  | nil => rfl
  | cons x l ih => simp only [hexL, List.flatMap_cons, List.length_append, List.length_cons, List.length_nil] at *; omega
theorem hex_index (k : Nat) (h : k < 16) (W : World) : (Instr.index 9 (.string ⟨#[48, 49, 50, 51, 52, 53, 54, 55, 56, 57, 97, 98, 99, 100, 101, 102]⟩) (.int .u8 (k : Int))).run Try.prog W = .ok (.int .u8 (hexD k).toNat) W := by
  have : k = 0 ∨ k = 1 ∨ k = 2 ∨ k = 3 ∨ k = 4 ∨ k = 5 ∨ k = 6 ∨ k = 7 ∨ k = 8 ∨ k = 9 ∨ k = 10 ∨ k = 11 ∨ k = 12 ∨ k = 13 ∨ k = 14 ∨ k = 15 := by omega
  rcases this with rfl | rfl | rfl | rfl | rfl | rfl | rfl | rfl | rfl | rfl | rfl | rfl | rfl | rfl | rfl | rfl <;> (show Sem.run _ _ _ = _; kernel_rfl)
set_option maxHeartbeats 400000 in
theorem hex_any (v : Value) (l : List UInt8) (w : World) (hv : Slc w v l) (hl : l.length ≤ 274877906944) :
    Calls Try.prog 23 #[v] w fun e w' => e = .returned (.string ⟨(hexL l).toArray⟩) ∧ Below w.heap.size w w' := by
  obtain ⟨i0, hi, hz0, hz1, hz2⟩ := info_parts info_u8
  have hlen := lenV hv
  go_enter Try.func23, Try.ntmps23
  go_wp2_with (at_make; refine wpList_make_own _ rfl _ _ 23 rfl w.heap.size 5 i0 _ 1 Try.underlying23 hi hz0 hz1 _ _ _ (2 * l.length) rfl rfl (by omega) (by rw [hz2]; omega) (by unfold maxLen; omega) (Nat.le_refl _) ?_; intro w1 hown hg)
  clear hi hz0 hz1 hz2
  go_loopw [3, 5, 12] (fun a _ k wr => ∃ j : Nat, j ≤ l.length ∧ Own wr w.heap.size a (hexL (l.take j)) ∧ k = .int .i64 j ∧ Below w.heap.size w wr) (fun _ _ k _ => l.length - (intOf k).toNat)
  case atStart => exact ⟨0, Nat.zero_le _, hown, rfl, (Below.refl _ _).grown hg (Nat.le_refl _) (by simp)⟩
  case round =>
    obtain ⟨j, hj, ho, rfl, hb⟩ := hrel
    by_cases hlt : j < l.length
    · obtain ⟨p, hp, hidx, hc⟩ := idxV hv j hlt
      have hcw := (hb.cell (p := p) hp).trans hc
      have hx : l[j].toNat < 256 := l[j].toNat_lt
      have hx1 : ∀ W, (Instr.index 9 (.string ⟨#[48, 49, 50, 51, 52, 53, 54, 55, 56, 57, 97, 98, 99, 100, 101, 102]⟩) (.int .u8 ((l[j].toNat : Int) / 16))).run Try.prog W = .ok (.int .u8 (hexD (l[j].toNat / 16)).toNat) W := fun W => hex_index (l[j].toNat / 16) (by omega) W
      have hx2 : ∀ W, (Instr.index 9 (.string ⟨#[48, 49, 50, 51, 52, 53, 54, 55, 56, 57, 97, 98, 99, 100, 101, 102]⟩) (.int .u8 ((l[j].toNat : Int) % 16))).run Try.prog W = .ok (.int .u8 (hexD (l[j].toNat % 16)).toNat) W := fun W => hex_index (l[j].toNat % 16) (by omega) W
      have hand := u8_and15 (l[j].toNat : Int) (by omega) (by omega)
      have hlen' := hexL_length (l.take j)
      rw [List.length_take] at hlen'
      have Hl : Hid ((hexL (l.take j)).length + 2 ≤ 1099511627776) := by show _ ≤ _; omega
      clear hc hlen'
      go_wp2
      go_region_law (refine step_app _ rfl _ _ rfl w.heap.size _ _ rfl (ho.alloc _).drew _ [hexD (l[j].toNat / 16), hexD (l[j].toNat % 16)] rfl (Own.lit wr w.heap.size _ _ 2 rfl rfl (by exact hb.size) (by simp [maxLen])).drew.slc (by exact Hl.out) (by have := hb.size; simp; omega) ?_; intro v' w2 ho' hg')
      all_goals
        have hb' : Below w.heap.size w w2 := (hb.alloc hb.size _).drew.grown hg' (by have := hb.size; simp; omega) ho.base
        clear hg' ho
        go_wp2
        go_roundw
        case rel => exact ⟨j + 1, by omega, by rw [hexL_take l j hlt]; exact ho', by go_num, hb'⟩
        case measure => simp [intOf] <;> omega
    · obtain rfl : j = l.length := by omega
      rw [List.take_length] at ho
      have h1 := ho.slc.str (P := Try.prog) 23 9 5 Try.underlying23 Try.underlying5 Try.underlying9
      go_wp2
      go_ret
      exact ⟨rfl, hb⟩
set_option maxHeartbeats 400000 in
theorem rhex_any (v : Value) (l : List UInt8) (w : World) (hv : Slc w v l) (hl : l.length ≤ 274877906944) :
    Calls Try.prog 25 #[v] w fun e w' => e = .returned (.string ⟨(hexL l).toArray⟩) ∧ Below w.heap.size w w' := by
  have hlen := lenV hv
  go_enter Try.func25, Try.ntmps25
  go_wp2
  go_loopw [3, 4] (fun a k wr => ∃ j : Nat, j ≤ l.length ∧ Own wr w.heap.size a (hexL (l.take j)) ∧ k = .int .i64 j ∧ Below w.heap.size w wr) (fun _ k _ => l.length - (intOf k).toNat)
  case atStart => exact ⟨0, Nat.zero_le _, Own.lit w _ [] #[] 0 rfl rfl (Nat.le_refl _) (by simp [maxLen]), rfl, (Below.refl _ _).alloc (Nat.le_refl _) _⟩
  case round =>
    obtain ⟨j, hj, ho, rfl, hb⟩ := hrel
    by_cases hlt : j < l.length
    · obtain ⟨p, hp, hidx, hc⟩ := idxV hv j hlt
      have hcw := (hb.cell (p := p) hp).trans hc
      have hx : l[j].toNat < 256 := l[j].toNat_lt
      have hand := u8_and15 (l[j].toNat : Int) (by omega) (by omega)
      have hlen' := hexL_length (l.take j)
      rw [List.length_take] at hlen'
      have Hl : Hid ((hexL (l.take j)).length + 2 ≤ 1099511627776) := by show _ ≤ _; omega
      have hw1 : IntKind.i64.wrap ((l[j].toNat : Int) / 16) = (l[j].toNat : Int) / 16 := IntWalk.i64_in _ (by omega)
      have hw2 : IntKind.i64.wrap ((l[j].toNat : Int) % 16) = (l[j].toNat : Int) % 16 := IntWalk.i64_in _ (by omega)
      clear hc hlen'
      go_wp2
      go_region_law (first
        | (go_simp; go_at_call 34; refine (rdigit_int _ (by omega) (by omega) _).mono ?_; rintro e W ⟨rfl, rfl⟩)
        | (refine step_app _ rfl _ _ rfl w.heap.size _ _ rfl (ho.alloc _).drew _ [hexD (l[j].toNat / 16), hexD (l[j].toNat % 16)] rfl (Own.lit wr w.heap.size _ _ 2 rfl rfl (by exact hb.size) (by simp [maxLen])).drew.slc (by exact Hl.out) (by have := hb.size; simp; omega) ?_; intro v' w2 ho' hg'))
      all_goals
        have hb' : Below w.heap.size w w2 := (hb.alloc hb.size _).drew.grown hg' (by have := hb.size; simp; omega) ho.base
        clear hg' ho
        go_wp2
        go_roundw
        case rel => exact ⟨j + 1, by omega, by rw [hexL_take l j hlt]; exact ho', by go_num, hb'⟩
        case measure => simp [intOf] <;> omega
    · obtain rfl : j = l.length := by omega
      rw [List.take_length] at ho
      have h1 := ho.slc.str (P := Try.prog) 23 9 5 Try.underlying23 Try.underlying5 Try.underlying9
      go_wp2
      go_ret
      exact ⟨rfl, hb⟩

end Go.Proofs.Ytbfmabjpjblpaaa
