/- The contract of the reference's Write. -/
import Derived.Test.YtbfmabjpjblpaaaFld2
set_option linter.unusedVariables false
set_option linter.unusedSimpArgs false
namespace Go.Proofs.Ytbfmabjpjblpaaa
open Go.RowKit

theorem chk_type (t : Int) (l : List UInt8) (h : t < 0 ∨ 65535 < t) : chk (t, l) = 4 := by unfold chk; rw [if_pos h]
theorem chk_long (t : Int) (l : List UInt8) (h0 : 0 ≤ t) (h1 : t ≤ 65535) (h : 65535 < l.length) : chk (t, l) = 2 := by unfold chk; rw [if_neg (by simp only; omega), if_pos h]
theorem chk_ok (t : Int) (l : List UInt8) (h0 : 0 ≤ t) (h1 : t ≤ 65535) (h : l.length ≤ 65535) : chk (t, l) = 0 := by unfold chk; rw [if_neg (by simp only; omega), if_neg (by simp only; omega)]

set_option maxRecDepth 100000 in
set_option maxHeartbeats 1600000 in
theorem rwrite_any (v : Value) (fs : Fs) (w : World) (hv : SlcF w v fs) (hb : (bytesF fs).length ≤ 1099511627776) :
    Calls Try.prog 27 #[v] w fun e w' => ∃ u, e = .returned (.tuple #[u, .int .i64 (wcode fs)]) ∧ Own w' w.heap.size u (wbytes fs) ∧ Below w.heap.size w w' := by
  have hlen := lenF hv
  have hle := hv.le
  unfold maxLen at hle
  go_enter Try.func27, Try.ntmps27
  go_wp2
  go_loopw [4, 5] (fun s i wr => ∃ j k : Nat, j ≤ fs.length ∧ k ≤ j ∧ Own wr w.heap.size s (bytesF (fs.take k)) ∧ (k < j → 65535 < (bytesF (fs.take k)).length) ∧ i = .int .i64 j ∧ errF (fs.take j) = 0 ∧ Below w.heap.size w wr) (fun _ i _ => fs.length - (intOf i).toNat)
  case atStart => exact ⟨0, 0, Nat.zero_le _, Nat.le_refl _, Own.lit w _ [] #[] 0 rfl rfl (Nat.le_refl _) (by simp [maxLen]), by omega, rfl, rfl, (Below.refl _ _).alloc (Nat.le_refl _) _⟩
  case round =>
    obtain ⟨j, k, hj, hkj, ho, hkb, rfl, he, hbl⟩ := hrel
    have He := Lib.hid he; clear he
    have hkl := bytesF_le fs k
    have hlo := lenV ho.slc
    by_cases hlt : j < fs.length
    · obtain ⟨b1, q1, u1, hb1, e1, c1, d1, s1⟩ := idxF hv j hlt
      replace c1 := (hbl.cell (p := ⟨b1, q1, none⟩) hb1).trans c1
      replace d1 := (hbl.cell (p := ⟨b1, q1 + 1, none⟩) hb1).trans d1
      replace s1 := s1.below hbl
      have hs2 := bytesF_le fs (j + 1)
      rw [bytesF_take fs j hlt, List.length_append, fldL_length] at hs2
      have Hbt := Lib.hid (bytesF_take fs j hlt)
      have Ht := Lib.hid (errF_take fs j hlt He.out)
      have Hst := Lib.hid (errF_stop fs j hlt He.out)
      generalize fs[j] = f at *
      obtain ⟨t, l⟩ := f
      have hll := lenV s1
      obtain ⟨A1, k1, rfl, _⟩ := id s1
      by_cases ht0 : t < 0
      · have E : Hid (errF fs = 4) := by show _ = _; rw [Hst.out (by rw [chk_type t l (.inl ht0)]; decide), chk_type t l (.inl ht0)]
        have E2 : Hid (wcode fs = 4) := by show wcode fs = _; unfold wcode; rw [E.out]; rfl
        go_wp2
        go_ret2
        exact ⟨_, by rw [E2.out]; rfl, by unfold wbytes; rw [E2.out, if_neg (by decide)]; exact Own.nil _ _, hbl⟩
      · by_cases ht1 : 65535 < t
        · have E : Hid (errF fs = 4) := by show _ = _; rw [Hst.out (by rw [chk_type t l (.inr ht1)]; decide), chk_type t l (.inr ht1)]
          have E2 : Hid (wcode fs = 4) := by show wcode fs = _; unfold wcode; rw [E.out]; rfl
          go_wp2
          go_ret2
          exact ⟨_, by rw [E2.out]; rfl, by unfold wbytes; rw [E2.out, if_neg (by decide)]; exact Own.nil _ _, hbl⟩
        · by_cases hl1 : 65535 < l.length
          · have hc := chk_long t l (by omega) (by omega) hl1
            have E : Hid (errF fs = 2) := by show _ = _; rw [Hst.out (by rw [hc]; decide), hc]
            have E2 : Hid (wcode fs = 2) := by show wcode fs = _; unfold wcode; rw [E.out]; rfl
            clear hc
            go_wp2
            go_ret2
            exact ⟨_, by rw [E2.out]; rfl, by unfold wbytes; rw [E2.out, if_neg (by decide)]; exact Own.nil _ _, hbl⟩
          · have hc : Hid (chk (t, l) = 0) := chk_ok t l (by omega) (by omega) (by omega)
            by_cases hbig : 65535 < (bytesF (fs.take k)).length
            · go_wp2
              go_roundw
              case rel => exact ⟨j + 1, k, by omega, by omega, ho, fun _ => hbig, by go_num, by rw [Ht.out, hc.out], hbl⟩
              case measure => simp [intOf] <;> omega
            · obtain rfl : k = j := by
                rcases Nat.lt_or_ge k j with h | h
                · exact absurd (hkb h) hbig
                · omega
              clear hkb
              obtain ⟨t, rfl⟩ := Int.eq_ofNat_of_zero_le (show 0 ≤ t by omega)
              have Hfl : Hid ([putN t 2, putN l.length 2, l].flatten = fldL ((t : Int), l)) := by show _ = _; simp [putN, fldL]
              have hw1 : IntKind.u64.wrap (t : Int) = t := u64_in _ (by omega) (by omega)
              have hw2 : IntKind.u64.wrap (l.length : Int) = l.length := u64_in _ (by omega) (by omega)
              have hlt8 := ho.base
              have hlt9 := ho.lt
              have hg0 : b1 < wr.heap.size := Nat.lt_of_lt_of_le hb1 hbl.size
              go_wp2
              have hS0 : wr.cell? ⟨b1, q1, none⟩ = some (.int .i64 (t : Int)) ∧ wr.cell? ⟨b1, q1 + 1, none⟩ = some (.slice A1 l.length k1) := ⟨c1, d1⟩
              go_region_held3 (fun w' => w'.cell? ⟨b1, q1, none⟩ = some (.int .i64 (t : Int)) ∧ w'.cell? ⟨b1, q1 + 1, none⟩ = some (.slice A1 l.length k1)) (first | exact hS0 | exact hS1 | exact hS2 | exact hS3 | exact hS4 | exact ⟨(World.cell?_alloc_lt _ _ _ (by have := bx1.size; have := bx2.size; simp; omega)).trans hS2.1, (World.cell?_alloc_lt _ _ _ (by have := bx1.size; have := bx2.size; simp; omega)).trans hS2.2⟩)
                (first
                  | (go_at_call_of 15 (Value.int IntKind.u64 (t : Int)); refine (rput_any t 2 (by omega) _).mono ?_; rintro e w2 ⟨x1, rfl, ox1, bx1⟩; replace bx1 : Below wr.heap.size wr w2 := (Below.refl wr.heap.size wr).drew.trans bx1; obtain ⟨A2, k2, rfl⟩ := ox1.shape 2 (by simp [putN, putL_length]); have hS1 : w2.cell? ⟨b1, q1, none⟩ = some (.int .i64 (t : Int)) ∧ w2.cell? ⟨b1, q1 + 1, none⟩ = some (.slice A1 l.length k1) := ⟨(bx1.cell (p := ⟨b1, q1, none⟩) hg0).trans hS0.1, (bx1.cell (p := ⟨b1, q1 + 1, none⟩) hg0).trans hS0.2⟩)
                  | (go_at_call_of 15 (Value.int IntKind.u64 (l.length : Int)); refine (rput_any l.length 2 (by omega) _).mono ?_; rintro e w3 ⟨x2, rfl, ox2, bx2⟩; obtain ⟨A3, k3, rfl⟩ := ox2.shape 2 (by simp [putN, putL_length]); have hS2 : w3.cell? ⟨b1, q1, none⟩ = some (.int .i64 (t : Int)) ∧ w3.cell? ⟨b1, q1 + 1, none⟩ = some (.slice A1 l.length k1) := ⟨(bx2.cell (p := ⟨b1, q1, none⟩) (Nat.lt_of_lt_of_le hg0 bx1.size)).trans hS1.1, (bx2.cell (p := ⟨b1, q1 + 1, none⟩) (Nat.lt_of_lt_of_le hg0 bx1.size)).trans hS1.2⟩)
                  | (go_at_call 31; refine (rjoin_any _ _ _ (Slcs.three w3 _ _ _ _ _ _ 23 (ox1.slc.below bx2) ox2.slc ((s1.below bx1).below bx2)) (by simp [sumLen, putN, putL_length]; omega)).mono ?_; rintro e w4 ⟨x3, rfl, ox3, bx3⟩; have hS3 : w4.cell? ⟨b1, q1, none⟩ = some (.int .i64 (t : Int)) ∧ w4.cell? ⟨b1, q1 + 1, none⟩ = some (.slice A1 l.length k1) := ⟨(bx3.cell (p := ⟨b1, q1, none⟩) (by have := bx1.size; have := bx2.size; simp; omega)).trans ((World.cell?_alloc_lt _ _ _ (by have := bx1.size; have := bx2.size; simp; omega)).trans hS2.1), (bx3.cell (p := ⟨b1, q1 + 1, none⟩) (by have := bx1.size; have := bx2.size; simp; omega)).trans ((World.cell?_alloc_lt _ _ _ (by have := bx1.size; have := bx2.size; simp; omega)).trans hS2.2)⟩)
                  | (refine step_app _ rfl _ _ rfl w.heap.size _ _ rfl ((((ho.below bx1).below bx2).alloc _).below bx3) _ _ rfl ox3.slc (by rw [Hfl.out, fldL_length]; exact Nat.le_trans hs2 hb) (by have := hbl.size; have := bx1.size; have := bx2.size; have := bx3.size; simp at *; omega) ?_; intro v' w5 ho' hg'; have hS4 : w5.cell? ⟨b1, q1, none⟩ = some (.int .i64 (t : Int)) ∧ w5.cell? ⟨b1, q1 + 1, none⟩ = some (.slice A1 l.length k1) := ⟨cell_grown hg' (fun k hk => by have := hlt8 k hk; omega) hS3.1 (by have := bx1.size; have := bx2.size; have := bx3.size; simp at *; omega), cell_grown hg' (fun k hk => by have := hlt8 k hk; omega) hS3.2 (by have := bx1.size; have := bx2.size; have := bx3.size; simp at *; omega)⟩))
              all_goals
                rw [Hfl.out, ← Hbt.out] at ho'
                have hbl' : Below w.heap.size w w5 := by
                  have z0 := hbl.size
                  have z1 := bx1.size
                  have z2 := bx2.size
                  have hb4 : Below w.heap.size w w4 := (((hbl.trans (bx1.mono z0)).trans (bx2.mono (by omega))).alloc (by omega) _).trans (bx3.mono (by simp; omega))
                  exact hb4.grown hg' hb4.size ho.base
                clear hg' ho bx1 bx2 bx3 hS0 hS1 hS2 hS3 hS4
                go_wp2
                go_roundw
                case rel => exact ⟨k + 1, k + 1, by omega, by omega, ho', by omega, by go_num, by rw [Ht.out, hc.out], hbl'⟩
                case measure => simp [intOf] <;> omega
    · obtain rfl : j = fs.length := by omega
      have hE : errF fs = 0 := by have := He.out; rwa [List.take_length] at this
      have HE := Lib.hid hE; clear hE He
      by_cases hbig : 65535 < (bytesF (fs.take k)).length
      · have E : Hid (wcode fs = 2) := by
          show wcode fs = _
          unfold wcode; rw [if_pos HE.out, if_pos (by omega)]
        clear hkb
        go_wp2
        go_ret2
        exact ⟨_, by rw [E.out]; rfl, by unfold wbytes; rw [E.out, if_neg (by decide)]; exact Own.nil _ _, hbl⟩
      · obtain rfl : k = fs.length := by
          rcases Nat.lt_or_ge k fs.length with h | h
          · exact absurd (hkb h) hbig
          · omega
        rw [List.take_length] at *
        have E : Hid (wcode fs = 0) := by
          show wcode fs = _
          unfold wcode; rw [if_pos HE.out, if_neg hbig]
        clear hkb
        go_wp2
        go_ret2
        exact ⟨_, by rw [E.out]; rfl, by unfold wbytes; rw [E.out, if_pos rfl]; exact ho, hbl⟩

end Go.Proofs.Ytbfmabjpjblpaaa
