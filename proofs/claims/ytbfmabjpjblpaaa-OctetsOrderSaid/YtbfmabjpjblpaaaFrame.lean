/- How a law's arguments come in: bytes and lists of fields as they are read. -/
import Derived.Test.YtbfmabjpjblpaaaFld
import Derived.ProofKit
import Derived.OpenShut
import Derived.ShutString
import Derived.ChangeOld
import Derived.Below
import Derived.Deep.Slices
set_option linter.unusedVariables false
set_option linter.unusedSimpArgs false
namespace Go.Proofs.Ytbfmabjpjblpaaa
open Go.RowKit

theorem own : ownKnob Try.prog.godebug = none := by kernel_rfl
theorem laidOut : laidOutB Try.prog = true := by kernel_rfl
theorem cell_lt {w : World} {a : Addr} {v : Value} (h : w.cell? a = some v) : a.block < w.heap.size := by
  rcases Nat.lt_or_ge a.block w.heap.size with h' | h'
  · exact h'
  · simp [World.cell?, Array.getElem?_eq_none h'] at h

theorem slc_of_trod {H : Type} {enc : TypeId × Value → H} {W : World} {base : Nat} {spare : Nat → Bool} {held : Bool} {v : Value} {fuel : Nat} {x : DataW H × List MemPlace}
    (hf : DataW.trod enc Try.prog W base spare held fuel 23 [v] = some x) : ∃ l, Slc W v l := by
  rcases ChangeShapes.open_ints Try.underlying23 Try.underlying5 (by kernel_rfl) hf with ⟨hcs, _⟩ | ⟨x, len, cap, zs, hcs, _, hl, hm, hz, _, hcell, hwz⟩
  · simp at hcs
    subst hcs
    exact ⟨[], Slc.nil W⟩
  · simp at hcs
    subst hcs
    have hle : len ≤ zs.length := by rw [hz]; split <;> omega
    have hlen : ((zs.take len).map fun n => UInt8.ofNat n.toNat).length = len := by rw [List.length_map, List.length_take]; omega
    refine ⟨(zs.take len).map fun n => UInt8.ofNat n.toNat, _, _, by rw [hlen], by omega, hm, by simp, fun h0 => ?_⟩
    have hc0 := hcell 0 (by omega)
    obtain ⟨b, o, sp⟩ := x
    have hsp : sp = none := by simpa [Addr.add] using World.cell?_spot hc0
    subst hsp
    refine ⟨b, o, rfl, by simpa [Addr.add] using cell_lt hc0, fun j hj => ?_⟩
    have hj' : j < zs.length := by omega
    have := hcell j hj'
    rw [add_plain] at this
    have hb := bounds_u8 (hwz zs[j] (List.getElem_mem hj'))
    rw [this]
    simp only [bv, List.getElem_map, List.getElem_take, List.getD, List.getElem?_eq_getElem hj', Option.getD_some, UInt8.toNat_ofNat', Option.some.injEq, Value.int.injEq, true_and]
    omega
theorem open_bytes {H : Type} {enc : TypeId × Value → H} {W : World} {base : Nat} {spare : Nat → Bool} {held : Bool} {a : Option Addr} {len cap : Nat} {d : DataW H} {p : List MemPlace}
    (h : DataW.Trod enc Try.prog W base spare held 23 (.slice a len cap) d p) : ∃ l, Slc W (.slice a len cap) l := by
  obtain ⟨fuel, hf⟩ := h
  exact slc_of_trod hf
theorem cellsInt : Try.prog.cellsOf 3 = 1 := by kernel_rfl
theorem cellsBytes : Try.prog.cellsOf 23 = 1 := by kernel_rfl
theorem cellsFld : Try.prog.cellsOf 41 = 2 := by kernel_rfl
theorem open_fields {H : Type} {enc : TypeId × Value → H} {W : World} {base : Nat} {spare : Nat → Bool} {held : Bool} {a : Option Addr} {len cap : Nat} {d : DataW H} {p : List MemPlace}
    (h : DataW.Trod enc Try.prog W base spare held 39 (.slice a len cap) d p) : ∃ l, SlcF W (.slice a len cap) l := by
  obtain ⟨fuel, hf⟩ := h
  rcases Deep.open_slice Try.underlying39 hf with ⟨hcs, _⟩ | ⟨x, l, c, m, n, D, Pl, hcs, _, hl, hm, hmm, _, hel⟩
  · simp [Value.cells] at hcs
    obtain ⟨rfl, rfl, rfl⟩ := hcs
    exact ⟨[], none, 0, rfl, by simp, by simp [maxLen], fun _ => rfl, by simp⟩
  · simp [Value.cells] at hcs
    obtain ⟨rfl, rfl, rfl⟩ := hcs
    have hle : len ≤ m := by rw [hmm]; split <;> omega
    have each : ∀ i, ∃ (t : Int) (y : List UInt8), i < len → ∃ u, W.cell? (x.add (i * 2)) = some (.int .i64 t) ∧ W.cell? ((x.add (i * 2)).add 1) = some u ∧ Slc W u y := by
      intro i
      by_cases hi : i < len
      · obtain ⟨cs', h1, h2⟩ := hel i (by omega)
        rw [cellsFld] at h1
        obtain ⟨y0, y1, k, _, hlen, g0, g1⟩ := ChangeShapes.trod_struct2 Try.underlying41 h2
        rw [cellsFld] at hlen
        obtain ⟨c0, c1, rfl⟩ : ∃ c0 c1, cs' = [c0, c1] := by
          match cs', hlen with
          | [c0, c1], _ => exact ⟨c0, c1, rfl⟩
        simp only [cellsInt, List.drop_zero, List.take_succ_cons, List.take_zero] at g0
        simp only [cellsBytes, List.drop_succ_cons, List.drop_zero, List.take_succ_cons, List.take_zero] at g1
        obtain ⟨t, e0, _, _⟩ := DataW.trod_int Try.underlying3 g0
        obtain ⟨y, hy⟩ := slc_of_trod g1
        simp at e0
        subst e0
        unfold World.cells? at h1
        split at h1
        · simp [List.range, List.range.loop] at h1
          cases ha : W.cell? ((x.add (i * 2)).add 0) with
          | none => rw [ha] at h1; cases h1
          | some z0 =>
            cases hb : W.cell? ((x.add (i * 2)).add 1) with
            | none => rw [ha, hb] at h1; cases h1
            | some z1 =>
              rw [ha, hb] at h1
              simp at h1
              obtain ⟨rfl, rfl⟩ := h1
              exact ⟨t, y, fun _ => ⟨_, by simpa [Addr.add] using ha, rfl, hy⟩⟩
        · cases h1
      · exact ⟨0, [], fun h => absurd h hi⟩
    obtain ⟨T, hT⟩ := Classical.axiomOfChoice each
    obtain ⟨Y, hY⟩ := Classical.axiomOfChoice hT
    have hfl : ((List.range len).map fun i => (T i, Y i)).length = len := by simp
    refine ⟨(List.range len).map fun i => (T i, Y i), some x, cap, by rw [hfl], by rw [hfl]; exact hl, hm, by simp, fun h0 => ?_⟩
    rw [hfl] at h0
    obtain ⟨u0, hc0, _⟩ := hY 0 h0
    obtain ⟨b, o, sp⟩ := x
    have hsp : sp = none := by simpa [Addr.add] using World.cell?_spot hc0
    subst hsp
    refine ⟨b, o, rfl, by simpa [Addr.add] using cell_lt hc0, fun j hj => ?_⟩
    obtain ⟨u, g1, g2, g3⟩ := hY j (by rw [hfl] at hj; exact hj)
    rw [add_plain] at g1 g2
    rw [add_plain] at g2
    exact ⟨u, by simpa using g1, g2, by simpa using g3⟩

end Go.Proofs.Ytbfmabjpjblpaaa
