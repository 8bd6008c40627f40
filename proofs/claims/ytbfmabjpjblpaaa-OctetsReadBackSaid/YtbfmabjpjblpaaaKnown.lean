/- The sanity check of layer 1's laws returns true. -/
import Derived.Test.YtbfmabjpjblpaaaFld2
import Derived.Test.YtbfmabjpjblpaaaOct3
set_option linter.unusedVariables false
set_option linter.unusedSimpArgs false
namespace Go.Proofs.Ytbfmabjpjblpaaa
open Go.RowKit

theorem SlcF.one (w : World) (t : Int) (u : Value) (l : List UInt8) (ty : TypeId) (g : Nat) (hg : g = w.heap.size) (h : Slc w u l) : SlcF (w.alloc (.cells #[.int .i64 t, u] ty)) (.slice (some ⟨g, 0, none⟩) 1 1) [(t, l)] := by
  subst hg
  refine ⟨_, _, rfl, Nat.le_refl _, by simp [maxLen], by simp, fun _ => ⟨_, 0, rfl, by simp, fun j hj => ?_⟩⟩
  match j, hj with
  | 0, _ => exact ⟨u, cell_new w _ _ 0 _ rfl, cell_new w _ _ 1 _ rfl, h.alloc _⟩
theorem bytesF_258 : bytesF [(258, [7])] = [1, 2, 0, 1, 7] := by decide
theorem wcode_258 : wcode [(258, [7])] = 0 := by decide
theorem hexL_0123 : hexL [0, 1, 2, 3] = [48, 48, 48, 49, 48, 50, 48, 51] := by decide
theorem hexL_0107 : hexL [1, 2, 0, 1, 7] = [48, 49, 48, 50, 48, 48, 48, 49, 48, 55] := by decide
theorem known_write (v : Value) (w : World) (h : SlcF w v [(258, [7])]) :
    Calls Try.prog 26 #[v] w fun e w' => ∃ u, e = .returned (.tuple #[u, .int .i64 0]) ∧ Own w' w.heap.size u [1, 2, 0, 1, 7] ∧ Below w.heap.size w w' := by
  refine (write_any v _ w h (by rw [bytesF_258]; decide)).mono ?_
  rintro e w' ⟨u, rfl, ho, hb⟩
  rw [wcode_258]
  unfold wbytes at ho
  rw [wcode_258, if_pos rfl, bytesF_258] at ho
  exact ⟨u, rfl, ho, hb⟩
theorem known_put (w : World) :
    Calls Try.prog 14 #[.int .u64 66051, .int .i64 4] w fun e w' => ∃ u, e = .returned u ∧ Own w' w.heap.size u [0, 1, 2, 3] ∧ Below w.heap.size w w' := by
  refine (put_any 66051 4 (by decide) w).mono ?_
  rintro e w' ⟨u, rfl, ho, hb⟩
  exact ⟨u, rfl, ho, hb⟩
set_option maxHeartbeats 400000 in
theorem known_any (w : World) :
    Calls Try.prog 10 #[] w fun e w' => e = .returned (.bool true) ∧ Below w.heap.size w w' := by
  have hk1 := hexL_0123
  have hk2 := hexL_0107
  have hk3 : getN [1, 0] = 256 := by decide
  go_enter Try.func10, Try.ntmps10
  go_wp2_with (first
    | (go_at_call 26; refine (known_write _ _ (SlcF.one (w.alloc _) _ _ _ _ _ (by simp) (Slc.byte w 7))).mono ?_; rintro e w1 ⟨u1, rfl, ho1, hb1⟩)
    | (go_at_call 14; refine (known_put _).mono ?_; rintro e w2 ⟨u2, rfl, ho2, hb2⟩)
    | (go_at_call_of 23 u2; refine (hex_any _ _ _ ho2.slc (by decide)).mono ?_; rintro e w3 ⟨rfl, hb3⟩)
    | (go_at_call_of 23 u1; refine (hex_any _ _ _ ((ho1.slc.below hb2).below hb3) (by decide)).mono ?_; rintro e w4 ⟨rfl, hb4⟩)
    | (go_at_call 16; refine (get_any _ [1, 0] _ (Own.lit w4 0 [1, 0] _ 2 rfl rfl (Nat.zero_le _) (by decide)).slc).mono ?_; rintro e w5 ⟨rfl, rfl⟩))
  go_ret
  have z1 := hb1.size
  have z2 := hb2.size
  have z3 := hb3.size
  have z4 := hb4.size
  have b1 : Below w.heap.size w w1 := (((Below.refl _ _).alloc (Nat.le_refl _) _).alloc (by simp) _).trans (hb1.mono (by simp; omega))
  have y1 := b1.size
  have b2 : Below w.heap.size w w4 := ((b1.trans (hb2.mono y1)).trans (hb3.mono (by omega))).trans (hb4.mono (by omega))
  exact ⟨rfl, b2.alloc b2.size _⟩

end Go.Proofs.Ytbfmabjpjblpaaa
