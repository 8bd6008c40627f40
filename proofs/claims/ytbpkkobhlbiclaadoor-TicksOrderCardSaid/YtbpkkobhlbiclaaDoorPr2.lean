/- Layer 10 on data: texts: the program. Own work. -/
import Derived.WalkKit
import Derived.FnLit
import Derived.LoopTactic
import Derived.Laws.RangeString
import Derived.Laws.RangeAny
import Derived.Scope
import Derived.Test.YtbpkkobhlbiclaaDoorPr1
import Derived.Test.YtbpkkobhlbiclaaDoorPs4
set_option linter.unusedVariables false
set_option linter.unusedSimpArgs false
namespace Go.Proofs.YtbpkkobhlbiclaaDoor
open Go.RowKit

/-! ### Digits, ranged over -/
/-- The number with these digits, behind others, as long as it is not above 2^40. -/
def numP (s : ByteArray) : Nat → Nat → Int → Option Int
  | 0, _, acc => some acc
  | b + 1, pos, acc => if h : pos < s.size then (if (s[pos]'h).toNat < 48 ∨ 57 < (s[pos]'h).toNat then none else if 1099511627776 < 10 * acc + ((s[pos]'h).toNat - 48 : Nat) then none else numP s b (pos + 1) (10 * acc + ((s[pos]'h).toNat - 48 : Nat))) else some acc
def numR (s : ByteArray) : Option Int := numP s s.size 0 0
theorem numP_end (s : ByteArray) (b pos : Nat) (acc : Int) (h : ¬ pos < s.size) : numP s b pos acc = some acc := by
  cases b with
  | zero => rfl
  | succ b => simp [numP, h]
theorem numP_step (s : ByteArray) (b pos : Nat) (acc : Int) (h : pos < s.size) : numP s (b + 1) pos acc = if (s[pos]'h).toNat < 48 ∨ 57 < (s[pos]'h).toNat then none else if 1099511627776 < 10 * acc + ((s[pos]'h).toNat - 48 : Nat) then none else numP s b (pos + 1) (10 * acc + ((s[pos]'h).toNat - 48 : Nat)) := by
  simp only [numP, h, dite_true]
set_option maxRecDepth 1000000 in
theorem num_walk (s : ByteArray) (w : World) :
    Calls Tryd.prog 41 #[.string s] w fun e w' => e = .returned (.tuple #[.int .i64 (oV (numR s)), .bool (numR s).isSome]) ∧ Below w.heap.size w w' := by
  go_enter Tryd.func41, Tryd.ntmps41
  go_wp2
  go_loopw [4] (fun n w' => ∃ (pos b : Nat) (acc : Int), w' = w.iter s pos ∧ n = .int .i64 acc ∧ 0 ≤ acc ∧ acc ≤ 1099511627776 ∧ numP s b pos acc = numR s ∧ s.size ≤ pos + b) (fun _ w' => s.size - w'.iterPos w.heap.size)
  case atStart => exact ⟨0, s.size, 0, rfl, rfl, by omega, by omega, rfl, by omega⟩
  case round =>
    obtain ⟨pos, b, acc, rfl, rfl, h0, h1, hc, hb⟩ := hrel
    by_cases hp : pos < s.size
    · have hnx : ∀ ty, (Instr.next (.pointer (some ⟨w.heap.size, 0, none⟩)) true ty).run Tryd.prog (w.iter s pos) = _ := fun ty => run_next_any w s pos ty hp
      rcases b with _ | b
      · omega
      by_cases ha : (s[pos]'hp).toNat < 128
      · rw [decode_ascii s pos hp ha] at hnx
        rw [numP_step s b pos acc hp] at hc
        generalize (s[pos]'hp).toNat = x at *
        have hx2 : ∀ ty, (Instr.next (.pointer (some ⟨w.heap.size, 0, none⟩)) true ty).run Tryd.prog (w.iter s pos) = .ok (.tuple #[.bool true, .int .i64 pos, .int .i32 (x : Int)]) (w.iter s (pos + 1)) := hnx
        clear hnx
        by_cases hlo : x < 48
        · rw [if_pos (.inl hlo)] at hc
          go_wp2
          go_ret2
          rw [← hc]
          exact ⟨rfl, (Below.refl _ _).alloc (Nat.le_refl _) _⟩
        · by_cases hhi : 57 < x
          · rw [if_pos (.inr hhi)] at hc
            go_wp2
            go_ret2
            rw [← hc]
            exact ⟨rfl, (Below.refl _ _).alloc (Nat.le_refl _) _⟩
          · rw [if_neg (by omega)] at hc
            have hw : RowKit.wrap32 ((x : Int) - 48) = (x : Int) - 48 := by unfold RowKit.wrap32; omega
            have e48 : ((x - 48 : Nat) : Int) = (x : Int) - 48 := by omega
            rw [e48] at hc
            by_cases hbig : 1099511627776 < 10 * acc + ((x : Int) - 48)
            · rw [if_pos hbig] at hc
              go_wp2
              go_ret2
              rw [← hc]
              exact ⟨rfl, (Below.refl _ _).alloc (Nat.le_refl _) _⟩
            · rw [if_neg hbig] at hc
              go_wp2
              refine ⟨⟨pos + 1, b, _, rfl, rfl, by omega, by omega, hc, by omega⟩, ?_⟩
              simp
              omega
      · have hd := (decode_high s pos hp (by omega)).1
        generalize (Utf8.decode s pos).1 = y at *
        generalize (Utf8.decode s pos).2 = z at *
        rw [numP_step s b pos acc hp, if_pos (.inr (by omega))] at hc
        go_wp2
        go_ret2
        rw [← hc]
        exact ⟨rfl, (Below.refl _ _).alloc (Nat.le_refl _) _⟩
    · have hnx : ∀ ty, (Instr.next (.pointer (some ⟨w.heap.size, 0, none⟩)) true ty).run Tryd.prog (w.iter s pos) = _ := fun ty => run_next_end w s pos ty hp
      go_wp2
      rw [numP_end s b pos acc hp] at hc
      go_ret2
      rw [← hc]
      exact ⟨rfl, (Below.refl _ _).alloc (Nat.le_refl _) _⟩
theorem num_c (G : Glob) (s : ByteArray) : Den Tryd.prog G 41 [.str s] (.tup [.c (.d (.int .i64 (oV (numR s)))), .c (.d (.bool (numR s).isSome))]) :=
  den_of_shelf (fun S w us h => args_s h) (fun S w hG => num_walk s w) (fun S w B => res_dd (.int _ _) (.bool _) rfl rfl)
/-! ### The same of a list -/
def numQ : List UInt8 → Int → Option Int
  | [], acc => some acc
  | c :: r, acc => if c.toNat < 48 ∨ 57 < c.toNat then none else if 1099511627776 < 10 * acc + (c.toNat - 48 : Nat) then none else numQ r (10 * acc + (c.toNat - 48 : Nat))
theorem numP_list (l : List UInt8) : ∀ (b pos : Nat) (acc : Int), l.length ≤ pos + b → numP ⟨l.toArray⟩ b pos acc = numQ (l.drop pos) acc
  | 0, pos, acc, h => by rw [List.drop_of_length_le (by omega)]; rfl
  | b + 1, pos, acc, h => by
    by_cases hp : pos < l.length
    · have hp' : pos < (ByteArray.mk l.toArray).size := by rw [szS]; exact hp
      rw [numP_step _ _ _ _ hp', List.drop_eq_getElem_cons hp]
      have e : ((ByteArray.mk l.toArray)[pos]'hp') = l[pos] := rfl
      rw [e, numP_list l b (pos + 1) _ (by omega)]
      rfl
    · rw [numP_end _ _ _ _ (by rw [szS]; exact hp), List.drop_of_length_le (by omega)]; rfl
theorem numR_list (l : List UInt8) : numR ⟨l.toArray⟩ = numQ l 0 := by
  unfold numR
  rw [szS, numP_list l l.length 0 0 (by omega), List.drop_zero]
end Go.Proofs.YtbpkkobhlbiclaaDoor

