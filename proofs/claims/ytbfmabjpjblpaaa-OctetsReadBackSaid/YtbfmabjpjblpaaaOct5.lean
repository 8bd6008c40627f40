/- The contract of the reference's Unhex. -/
import Derived.Test.YtbfmabjpjblpaaaOct4
set_option linter.unusedVariables false
set_option linter.unusedSimpArgs false
namespace Go.Proofs.Ytbfmabjpjblpaaa
open Go.RowKit

theorem hexZ_eq (z : Nat) (a : UInt8) (hz : z < 16) : (hexZ (z : Int) == (a.toNat : Int)) = decide (hexD z = a) := by
  rw [Bool.eq_iff_iff, beq_iff_eq, decide_eq_true_iff, ← UInt8.toNat_inj]
  show ((hexD z).toNat : Int) = _ ↔ _
  omega
set_option maxHeartbeats 400000 in
theorem runhex_odd (s : ByteArray) (w : World) (hs : s.size ≤ 549755813888) (h2 : s.size % 2 = 1) :
    Calls Try.prog 24 #[.string s] w fun e w' => e = .returned (.tuple #[.slice none 0 0, .bool false]) ∧ w = w' := by
  have hb : (((s.size : Int) % 2) != 0) = true := by rw [bne_iff_ne]; omega
  go_enter Try.func24, Try.ntmps24
  go_wp2
  go_ret2
  exact ⟨rfl, rfl⟩
set_option maxRecDepth 100000 in
set_option maxHeartbeats 800000 in
theorem runhex_even (s : ByteArray) (w : World) (hs : s.size ≤ 549755813888) (h2 : s.size % 2 = 0) :
    Calls Try.prog 24 #[.string s] w fun e w' => ∃ u, e = .returned (.tuple #[u, .bool (unhexOk s)]) ∧ Own w' w.heap.size u (unhexB s) ∧ Below w.heap.size w w' := by
  have hb : (((s.size : Int) % 2) != 0) = false := by rw [bne_eq_false_iff_eq]; omega
  have hsz : s.data.toList.length = s.size := by simp
  have Hsz := Lib.hid hsz; clear hsz
  go_enter Try.func24, Try.ntmps24
  go_wp2
  go_loopw [4, 5, 6, 7] (fun a k _ _ wr => ∃ (j : Nat) (l : List UInt8), j ≤ s.size ∧ j % 2 = 0 ∧ unhexL (s.data.toList.take j) = some l ∧ l.length ≤ j ∧ Own wr w.heap.size a l ∧ k = .int .i64 j ∧ Below w.heap.size w wr) (fun _ k _ _ _ => s.size - (intOf k).toNat)
  case atStart => exact ⟨0, [], Nat.zero_le _, rfl, rfl, Nat.le_refl _, Own.lit w _ [] #[] 0 rfl rfl (Nat.le_refl _) (by simp [maxLen]), rfl, (Below.refl _ _).alloc (Nat.le_refl _) _⟩
  case round =>
    obtain ⟨j, l, hj, hj2, hl, hlj, ho, rfl, hb⟩ := hrel
    have Hl := Lib.hid hl; clear hl
    have Hj2 := Lib.hid hj2
    by_cases hlt : j < s.size
    · have hlt' : j + 1 < s.size := by omega
      have Hget := Lib.hid (str_get s j hlt)
      have Hget' := Lib.hid (str_get s (j + 1) hlt')
      have hx : s[j].toNat < 256 := s[j].toNat_lt
      have hy : s[j + 1].toNat < 256 := s[j + 1].toNat_lt
      have hjl : j + 1 < s.data.toList.length := by rw [Hsz.out]; exact hlt'
      clear hj2
      go_wp2
      obtain ⟨wo, rfl⟩ : ∃ wo : World, wo = wr := ⟨_, rfl⟩
      go_loopw [6, 7] (fun a k wi => ∃ i : Nat, i ≤ 256 ∧ a = .int .i64 (fnd s[j] s[j + 1] i) ∧ k = .int .i64 i ∧ Drawn wo wi) (fun _ k _ => 256 - (intOf k).toNat)
      case atStart => exact ⟨0, by omega, rfl, rfl, Drawn.refl _⟩
      case round =>
        obtain ⟨i, hi, rfl, rfl, hdr⟩ := hrel
        by_cases hlt2 : i < 256
        · have hw1 : IntKind.i64.wrap ((i : Int) / 16) = (i : Int) / 16 := IntWalk.i64_in _ (by omega)
          have hw2 : IntKind.i64.wrap ((i : Int) % 16) = (i : Int) % 16 := IntWalk.i64_in _ (by omega)
          have htm : ((i : Int).tmod 16) = (i : Int) % 16 := Int.tmod_eq_emod_of_nonneg (by omega)
          have hw3 : IntKind.i64.wrap ((j : Int) + 1) = (j : Int) + 1 := IntWalk.i64_in _ (by omega)
          have ht3 : ((j : Int) + 1).toNat = j + 1 := by omega
          have hp3 : (0 : Int) ≤ (j : Int) + 1 := by omega
          have hq3 : (j : Int) + 1 < (s.size : Int) := by omega
          have hz1 : (hexZ ((i : Int) / 16) == (s[j].toNat : Int)) = decide (hexD (i / 16) = s[j]) := hexZ_eq (i / 16) s[j] (by omega)
          have hz2 : (hexZ ((i : Int) % 16) == (s[j + 1].toNat : Int)) = decide (hexD (i % 16) = s[j + 1]) := hexZ_eq (i % 16) s[j + 1] (by omega)
          by_cases h1 : hexD (i / 16) = s[j]
          · rw [decide_eq_true h1] at hz1
            have H1 := Lib.hid h1
            clear h1
            by_cases h2 : hexD (i % 16) = s[j + 1]
            · rw [decide_eq_true h2] at hz2
              have H2 := Lib.hid h2
              clear h2
              go_wp2
              go_quiet ((go_at_call 34; exact quiet (rdigit_int _ (by omega) (by omega) _)))
              have hd' := hdr.more nq
              clear hw1 hw2 hz1 hz2 htm
              go_wp2
              go_roundw
              case rel => exact ⟨i + 1, by omega, by rw [fnd, if_pos ⟨H1.out, H2.out⟩], by go_num, hd'⟩
              case measure => simp [intOf] <;> omega
            · rw [decide_eq_false h2] at hz2
              have H2 := Lib.hid h2
              clear h2
              go_wp2
              go_quiet ((go_at_call 34; exact quiet (rdigit_int _ (by omega) (by omega) _)))
              have hd' := hdr.more nq
              clear hw1 hw2 hz1 hz2 htm
              go_wp2
              go_roundw
              case rel => exact ⟨i + 1, by omega, by rw [fnd, if_neg (fun h => H2.out h.2)], by go_num, hd'⟩
              case measure => simp [intOf] <;> omega
          · rw [decide_eq_false h1] at hz1
            have H1 := Lib.hid h1
            clear h1
            go_wp2
            go_quiet ((go_at_call 34; exact quiet (rdigit_int _ (by omega) (by omega) _)))
            have hd' := hdr.more nq
            clear hw1 hw2 hz1 hz2 htm
            go_wp2
            go_roundw
            case rel => exact ⟨i + 1, by omega, by rw [fnd, if_neg (fun h => H1.out h.1)], by go_num, hd'⟩
            case measure => simp [intOf] <;> omega
        · obtain rfl : i = 256 := by omega
          have ho := ho.drawn hdr
          have hb := hdr.below hb
          clear hdr
          have hfe := fnd_eq s[j] s[j + 1] 256 (by omega)
          have hlo := digV_lt s[j + 1].toNat
          have hhi := digV_lt s[j].toNat
          by_cases hok : digOk s[j].toNat = true ∧ digOk s[j + 1].toNat = true
          · rw [if_pos ⟨hok.1, hok.2, by omega⟩] at hfe
            have hstep := unhexL_step s.data.toList l j hjl Hj2.out Hl.out (by rw [Hget.out]; exact hok.1) (by rw [Hget'.out]; exact hok.2)
            rw [Hget.out, Hget'.out] at hstep
            have Hstep := Lib.hid hstep
            clear hstep hok
            have hex : ((16 * digV s[j].toNat + digV s[j + 1].toNat : Nat) : Int) = ((UInt8.ofNat (16 * digV s[j].toNat + digV s[j + 1].toNat)).toNat : Int) := by
              rw [UInt8.toNat_ofNat']; omega
            rw [hfe, hex]
            clear hfe hex hhi hlo
            generalize UInt8.ofNat (16 * digV s[j].toNat + digV s[j + 1].toNat) = x at *
            have hxx : x.toNat < 256 := x.toNat_lt
            go_wp2_with (at_builtin; refine wpList_app _ rfl _ _ rfl w.heap.size _ _ rfl (ho.alloc _) _ _ rfl (Slc.byte wr x) (by simp; omega) (by have := hb.size; simp; omega) ?_; intro v' w2 ho' hg')
            have hb' : Below w.heap.size w w2 := (hb.alloc hb.size _).grown hg' (by have := hb.size; simp; omega) ho.base
            clear hg' ho
            go_wp2
            go_roundw
            case rel => exact ⟨j + 2, _, by omega, by have := Hj2.out; omega, Hstep.out, by simp; omega, ho', by go_num, hb'⟩
            case measure => simp [intOf] <;> omega
          · have hstop := unhexL_stop s.data.toList l j hjl Hj2.out Hl.out (by rw [Hget.out, Hget'.out]; exact hok)
            have e1 : unhexOk s = false := by unfold unhexOk; rw [hstop]; rfl
            have e2 : unhexB s = [] := by unfold unhexB; rw [hstop]; rfl
            have E1 := Lib.hid e1
            have E2 := Lib.hid e2
            rw [if_neg (fun h => hok ⟨h.1, h.2.1⟩)] at hfe
            rw [hfe]
            clear hstop e1 e2 hok hfe
            go_wp2
            go_ret2
            exact ⟨_, by rw [E1.out]; rfl, by rw [E2.out]; exact Own.nil _ _, hb⟩
    · obtain rfl : j = s.size := by omega
      have hfin : unhexL s.data.toList = some l := by rw [← Hl.out, List.take_of_length_le (by rw [Hsz.out]; exact Nat.le_refl _)]
      have e1 : unhexOk s = true := by unfold unhexOk; rw [hfin]; rfl
      have e2 : unhexB s = l := by unfold unhexB; rw [hfin]; rfl
      have E1 := Lib.hid e1
      have E2 := Lib.hid e2
      clear hfin e1 e2 hj2
      go_wp2
      go_ret2
      exact ⟨_, by rw [E1.out]; rfl, by rw [E2.out]; exact ho, hb⟩
theorem runhex_any (s : ByteArray) (w : World) (hs : s.size ≤ 549755813888) :
    Calls Try.prog 24 #[.string s] w fun e w' => ∃ u, e = .returned (.tuple #[u, .bool (unhexOk s)]) ∧ Own w' w.heap.size u (unhexB s) ∧ Below w.heap.size w w' := by
  by_cases h : s.size % 2 = 0
  · exact runhex_even s w hs h
  · have h0 := unhexL_odd _ s.data.toList (Nat.le_refl _) (by simp; omega)
    refine (runhex_odd s w hs (by omega)).mono ?_
    rintro e w' ⟨rfl, rfl⟩
    exact ⟨_, by rw [show unhexOk s = false by unfold unhexOk; rw [h0]; rfl], by rw [show unhexB s = [] by unfold unhexB; rw [h0]; rfl]; exact Own.nil _ _, Below.refl _ _⟩

end Go.Proofs.Ytbfmabjpjblpaaa
