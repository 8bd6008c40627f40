/- The contracts of layer 1's Unhex. -/
import Derived.Test.YtbfmabjpjblpaaaOct3
import Derived.Deep.RegionLaw
set_option linter.unusedVariables false
set_option linter.unusedSimpArgs false
namespace Go.Proofs.Ytbfmabjpjblpaaa
open Go.RowKit

/-! ### Unhex -/
def digOk (c : Nat) : Bool := (decide (48 ≤ c) && decide (c ≤ 57)) || (decide (97 ≤ c) && decide (c ≤ 102))
def digV (c : Nat) : Nat := if digOk c = true then (if c ≤ 57 then c - 48 else c - 87) else 0
theorem digV_lt (c : Nat) : digV c < 16 := by
  unfold digV digOk; split
  · rename_i h; simp at h; split <;> omega
  · omega
theorem hexD_iff (x : Nat) (a : UInt8) (hx : x < 16) : hexD x = a ↔ digOk a.toNat = true ∧ digV a.toNat = x := by
  have ha : a.toNat < 256 := a.toNat_lt
  rw [← UInt8.toNat_inj]
  have e0 : (hexD x).toNat = if x < 10 then 48 + x else 87 + x := by unfold hexD; split <;> simp <;> omega
  rw [e0]
  unfold digV digOk
  constructor
  · intro h
    split at h
    · have h1 : a.toNat = 48 + x := by omega
      rw [h1]
      refine ⟨by simp; omega, ?_⟩
      rw [if_pos (by simp; omega), if_pos (by omega)]; omega
    · have h1 : a.toNat = 87 + x := by omega
      rw [h1]
      refine ⟨by simp; omega, ?_⟩
      rw [if_pos (by simp; omega), if_neg (by omega)]; omega
  · rintro ⟨h1, h2⟩
    rw [if_pos h1] at h2
    simp at h1
    split at h2 <;> split <;> omega
def unhexL : List UInt8 → Option (List UInt8)
  | [] => some []
  | [_] => none
  | a :: b :: r => if digOk a.toNat = true ∧ digOk b.toNat = true then (unhexL r).map fun l => UInt8.ofNat (16 * digV a.toNat + digV b.toNat) :: l else none
theorem unhexL_odd : ∀ (n : Nat) (s : List UInt8), s.length ≤ n → s.length % 2 = 1 → unhexL s = none
  | 0, s, h, h1 => by omega
  | n + 1, [], h, h1 => by simp at h1
  | n + 1, [a], h, h1 => rfl
  | n + 1, a :: b :: r, h, h1 => by
    simp only [List.length_cons] at h h1
    rw [unhexL, unhexL_odd n r (by omega) (by omega)]
    split <;> rfl
theorem unhexL_append : ∀ (n : Nat) (p q : List UInt8), p.length ≤ n → p.length % 2 = 0 → unhexL (p ++ q) = (unhexL p).bind fun x => (unhexL q).map fun y => x ++ y
  | n, [], q, h, h1 => by simp [unhexL]
  | 0, a :: r, q, h, h1 => by simp at h
  | n + 1, [a], q, h, h1 => by simp at h1
  | n + 1, a :: b :: r, q, h, h1 => by
    simp only [List.length_cons] at h h1
    show unhexL (a :: b :: (r ++ q)) = _
    rw [unhexL, unhexL, unhexL_append n r q (by omega) (by omega)]
    split
    · cases unhexL r <;> cases unhexL q <;> simp
    · rfl
/-- A step of the loop over pairs. -/
theorem unhexL_step (s l : List UInt8) (k : Nat) (hk : k + 1 < s.length) (h2 : k % 2 = 0) (hl : unhexL (s.take k) = some l) (h1 : digOk s[k].toNat = true) (h3 : digOk (s[k + 1]'hk).toNat = true) :
    unhexL (s.take (k + 2)) = some (l ++ [UInt8.ofNat (16 * digV s[k].toNat + digV (s[k + 1]'hk).toNat)]) := by
  have e : s.take (k + 2) = s.take k ++ [s[k], s[k + 1]'hk] := by
    rw [List.take_succ_eq_append_getElem (i := k + 1) hk, List.take_succ_eq_append_getElem (i := k) (by omega), List.append_assoc]; rfl
  rw [e, unhexL_append k _ _ (by rw [List.length_take]; omega) (by rw [List.length_take]; omega), hl]
  simp [unhexL, h1, h3]
theorem unhexL_stop (s l : List UInt8) (k : Nat) (hk : k + 1 < s.length) (h2 : k % 2 = 0) (hl : unhexL (s.take k) = some l) (h1 : ¬ (digOk s[k].toNat = true ∧ digOk (s[k + 1]'hk).toNat = true)) : unhexL s = none := by
  have e : s = s.take k ++ (s[k] :: s[k + 1]'hk :: s.drop (k + 2)) := by
    conv => lhs; rw [← List.take_append_drop k s]
    rw [List.drop_eq_getElem_cons (by omega), List.drop_eq_getElem_cons (by omega)]
  rw [e, unhexL_append k _ _ (by rw [List.length_take]; omega) (by rw [List.length_take]; omega), hl, unhexL, if_neg h1]
  rfl
theorem unhex_or (x y : Nat) (hx : x < 16) (hy : y < 16) : bits .or .u8 ((x : Int) * 16) (y : Int) = ((UInt8.ofNat (16 * x + y)).toNat : Int) := by
  have h1 := bits_join .u8 8 (by decide) wraps_u8 4 ((x : Int) * 16) (y : Int) (by omega) (by omega) (by omega) (by omega) (by omega) (by omega)
  rw [h1]
  simp; omega
/-- What the reference's search finds. -/
def fnd (a b : UInt8) : Nat → Int
  | 0 => -1
  | k + 1 => if hexD (k / 16) = a ∧ hexD (k % 16) = b then (k : Int) else fnd a b k
theorem fnd_eq (a b : UInt8) (n : Nat) (hn : n ≤ 256) : fnd a b n = if digOk a.toNat = true ∧ digOk b.toNat = true ∧ 16 * digV a.toNat + digV b.toNat < n then ((16 * digV a.toNat + digV b.toNat : Nat) : Int) else -1 := by
  have hb := digV_lt b.toNat
  induction n with
  | zero => rw [if_neg (by omega)]; rfl
  | succ k ih =>
    have h1 := hexD_iff (k / 16) a (by omega)
    have h2 := hexD_iff (k % 16) b (by omega)
    rw [fnd, ih (by omega)]
    simp only [h1, h2]
    generalize digV a.toNat = x at *
    generalize digV b.toNat = y at *
    by_cases c1 : digOk a.toNat = true <;> by_cases c2 : digOk b.toNat = true <;> simp [c1, c2]
    split <;> split <;> (try split) <;> omega
theorem digit_any (c : Nat) (hc : c < 256) (w : World) :
    Calls Try.prog 33 #[.int .u8 c] w fun e w' => e = .returned (.tuple #[.int .u8 (digV c), .bool (digOk c)]) ∧ w = w' := by
  unfold digV
  by_cases h1 : 48 ≤ c ∧ c ≤ 57
  · have e1 : digOk c = true := by unfold digOk; simp; omega
    obtain ⟨h1, h2⟩ := h1
    rw [e1, if_pos rfl, if_pos h2, show ((c - 48 : Nat) : Int) = (c : Int) - 48 by omega]
    go_enter Try.func33, Try.ntmps33
    go_wp2
    go_ret2
    exact ⟨rfl, rfl⟩
  · by_cases h3 : 97 ≤ c ∧ c ≤ 102
    · have e1 : digOk c = true := by unfold digOk; simp; omega
      obtain ⟨h3, h4⟩ := h3
      rw [e1, if_pos rfl, if_neg (by omega), show ((c - 87 : Nat) : Int) = (c : Int) - 97 + 10 by omega]
      have h5 : 57 < c := by omega
      clear h1
      go_enter Try.func33, Try.ntmps33
      go_wp2
      go_ret2
      exact ⟨rfl, rfl⟩
    · have e1 : digOk c = false := by unfold digOk; simp; omega
      rw [e1, if_neg (by simp)]
      by_cases h5 : c < 48
      · clear h1 h3
        go_enter Try.func33, Try.ntmps33
        go_wp2
        go_ret2
        exact ⟨rfl, rfl⟩
      · by_cases h6 : c < 97
        · have h7 : 57 < c := by omega
          clear h1 h3
          go_enter Try.func33, Try.ntmps33
          go_wp2
          go_ret2
          exact ⟨rfl, rfl⟩
        · have h7 : 102 < c := by omega
          clear h1 h3
          go_enter Try.func33, Try.ntmps33
          go_wp2
          go_ret2
          exact ⟨rfl, rfl⟩

theorem str_get (s : ByteArray) (k : Nat) (h : k < s.size) : s.data.toList[k]'(by simpa using h) = s[k] := by simp [ByteArray.getElem_eq_getElem_data]
def unhexOk (s : ByteArray) : Bool := (unhexL s.data.toList).isSome
def unhexB (s : ByteArray) : List UInt8 := (unhexL s.data.toList).getD []

set_option maxHeartbeats 400000 in
theorem unhex_odd (s : ByteArray) (w : World) (hs : s.size ≤ 549755813888) (h2 : s.size % 2 = 1) :
    Calls Try.prog 22 #[.string s] w fun e w' => e = .returned (.tuple #[.slice none 0 0, .bool false]) ∧ w = w' := by
  have hb : (((s.size : Int) % 2) != 0) = true := by rw [bne_iff_ne]; omega
  go_enter Try.func22, Try.ntmps22
  go_wp2
  go_ret2
  exact ⟨rfl, rfl⟩
set_option maxHeartbeats 400000 in
theorem unhex_even (s : ByteArray) (w : World) (hs : s.size ≤ 549755813888) (h2 : s.size % 2 = 0) :
    Calls Try.prog 22 #[.string s] w fun e w' => ∃ u, e = .returned (.tuple #[u, .bool (unhexOk s)]) ∧ Own w' w.heap.size u (unhexB s) ∧ Below w.heap.size w w' := by
  obtain ⟨i0, hi, hz0, hz1, hz2⟩ := info_parts info_u8
  have hb : (((s.size : Int) % 2) != 0) = false := by rw [bne_eq_false_iff_eq]; omega
  have hsz : s.data.toList.length = s.size := by simp
  have Hsz := Lib.hid hsz; clear hsz
  go_enter Try.func22, Try.ntmps22
  go_wp2_with (at_make; refine wpList_make_own _ rfl _ _ 23 rfl w.heap.size 5 i0 _ 1 Try.underlying23 hi hz0 hz1 _ _ _ (s.size / 2) rfl rfl (by omega) (by rw [hz2]; omega) (by unfold maxLen; omega) (Nat.le_refl _) ?_; intro w1 hown hg)
  clear hi hz0 hz1 hz2
  go_loopw [4, 5, 6, 7, 8, 9] (fun a k _ _ _ _ wr => ∃ (j : Nat) (l : List UInt8), j ≤ s.size ∧ j % 2 = 0 ∧ unhexL (s.data.toList.take j) = some l ∧ l.length ≤ j ∧ Own wr w.heap.size a l ∧ k = .int .i64 j ∧ Below w.heap.size w wr) (fun _ k _ _ _ _ _ => s.size - (intOf k).toNat)
  case atStart => exact ⟨0, [], Nat.zero_le _, rfl, rfl, Nat.le_refl _, hown, rfl, (Below.refl _ _).grown hg (Nat.le_refl _) (by simp)⟩
  case round =>
    obtain ⟨j, l, hj, hj2, hl, hlj, ho, rfl, hb⟩ := hrel
    have Hl := Lib.hid hl; clear hl
    have Hj2 := Lib.hid hj2
    by_cases hlt : j < s.size
    · have hlt' : j + 1 < s.size := by omega
      have Hget := Lib.hid (str_get s j hlt)
      have Hget' := Lib.hid (str_get s (j + 1) hlt')
      have hx : s[j].toNat < 256 := s[j].toNat_lt
      have hy : s[j + 1].toNat < 256 := s[j + 1].toNat_lt
      have hlo := digV_lt s[j + 1].toNat
      have hhi := digV_lt s[j].toNat
      have hjl : j + 1 < s.data.toList.length := by rw [Hsz.out]; exact hlt'
      clear hj2
      have hor := unhex_or _ _ hhi hlo
      by_cases hok : digOk s[j].toNat = true ∧ digOk s[j + 1].toNat = true
      · obtain ⟨hd1, hd2⟩ := hok
        have hstep := unhexL_step s.data.toList l j hjl Hj2.out Hl.out (by rw [Hget.out]; exact hd1) (by rw [Hget'.out]; exact hd2)
        rw [Hget.out, Hget'.out] at hstep
        have Hstep := Lib.hid hstep
        clear hstep
        go_wp2_with (first
          | (go_at_call 33; refine (digit_any _ (by first | exact hx | exact hy) _).mono ?_; rintro e w' ⟨rfl, rfl⟩)
          | (at_builtin; refine wpList_app _ rfl _ _ rfl w.heap.size _ _ rfl (ho.alloc _) _ _ rfl (Slc.byte wr (UInt8.ofNat (16 * digV s[j].toNat + digV s[j + 1].toNat))) (by simp; omega) (by have := hb.size; simp; omega) ?_; intro v' w2 ho' hg'))
        have hb' : Below w.heap.size w w2 := (hb.alloc hb.size _).grown hg' (by have := hb.size; simp; omega) ho.base
        clear hg' ho hor
        go_wp2
        go_roundw
        case rel => exact ⟨j + 2, _, by omega, by have := Hj2.out; omega, Hstep.out, by simp; omega, ho', by go_num, hb'⟩
        case measure => simp [intOf] <;> omega
      · have hstop := unhexL_stop s.data.toList l j hjl Hj2.out Hl.out (by rw [Hget.out, Hget'.out]; exact hok)
        have e1 : unhexOk s = false := by unfold unhexOk; rw [hstop]; rfl
        have e2 : unhexB s = [] := by unfold unhexB; rw [hstop]; rfl
        have E1 := Lib.hid e1
        have E2 := Lib.hid e2
        clear hstop e1 e2 hor
        by_cases hd1 : digOk s[j].toNat = true
        · have hd2 : digOk s[j + 1].toNat = false := by
            rcases hh : digOk s[j + 1].toNat with _ | _
            · rfl
            · exact absurd ⟨hd1, hh⟩ hok
          clear hok
          go_wp2_with (go_at_call 33; refine (digit_any _ (by first | exact hx | exact hy) _).mono ?_; rintro e w' ⟨rfl, rfl⟩)
          go_ret2
          exact ⟨_, by rw [E1.out]; rfl, by rw [E2.out]; exact Own.nil _ _, hb⟩
        · have hd1' : digOk s[j].toNat = false := by simpa using hd1
          clear hok hd1
          go_wp2_with (go_at_call 33; refine (digit_any _ (by first | exact hx | exact hy) _).mono ?_; rintro e w' ⟨rfl, rfl⟩)
          go_ret2
          exact ⟨_, by rw [E1.out]; rfl, by rw [E2.out]; exact Own.nil _ _, hb⟩
    · obtain rfl : j = s.size := by omega
      have hfin : unhexL s.data.toList = some l := by rw [← Hl.out, List.take_of_length_le (by rw [Hsz.out]; exact Nat.le_refl _)]
      have e1 : unhexOk s = true := by unfold unhexOk; rw [hfin]; rfl
      have e2 : unhexB s = l := by unfold unhexB; rw [hfin]; rfl
      have E1 := Lib.hid e1
      have E2 := Lib.hid e2
      clear hfin e1 e2 hj2
      go_wp2
      go_ret2
      exact ⟨_, by rw [E1.out]; rfl, by rw [E2.out]; exact ho, hb⟩
theorem unhex_any (s : ByteArray) (w : World) (hs : s.size ≤ 549755813888) :
    Calls Try.prog 22 #[.string s] w fun e w' => ∃ u, e = .returned (.tuple #[u, .bool (unhexOk s)]) ∧ Own w' w.heap.size u (unhexB s) ∧ Below w.heap.size w w' := by
  by_cases h : s.size % 2 = 0
  · exact unhex_even s w hs h
  · have h0 := unhexL_odd _ s.data.toList (Nat.le_refl _) (by simp; omega)
    refine (unhex_odd s w hs (by omega)).mono ?_
    rintro e w' ⟨rfl, rfl⟩
    exact ⟨_, by rw [show unhexOk s = false by unfold unhexOk; rw [h0]; rfl], by rw [show unhexB s = [] by unfold unhexB; rw [h0]; rfl]; exact Own.nil _ _, Below.refl _ _⟩

end Go.Proofs.Ytbfmabjpjblpaaa
