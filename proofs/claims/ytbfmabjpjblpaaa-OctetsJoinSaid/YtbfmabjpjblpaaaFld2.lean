/- The contracts of layer 1's Write. -/
import Derived.Test.YtbfmabjpjblpaaaFld
import Derived.Deep.RegionHeld3
set_option linter.unusedVariables false
set_option linter.unusedSimpArgs false
namespace Go.Proofs.Ytbfmabjpjblpaaa
open Go.RowKit

/-- The first error of a list of fields; its bytes. -/
def errF : Fs → Int
  | [] => 0
  | f :: r => if chk f = 0 then errF r else chk f
def bytesF (fs : Fs) : List UInt8 := fs.flatMap fldL
theorem fldL_length (f : Int × List UInt8) : (fldL f).length = 4 + f.2.length := by simp [fldL, putL_length]; omega
theorem bytesF_take (fs : Fs) (j : Nat) (h : j < fs.length) : bytesF (fs.take (j + 1)) = bytesF (fs.take j) ++ fldL fs[j] := by
  rw [List.take_succ_eq_append_getElem h]
  simp only [bytesF, List.flatMap_append, List.flatMap_cons, List.flatMap_nil, List.append_nil]
theorem bytesF_le (fs : Fs) (j : Nat) : (bytesF (fs.take j)).length ≤ (bytesF fs).length := by
  conv => rhs; rw [← List.take_append_drop j fs]
  simp only [bytesF, List.flatMap_append, List.length_append]; omega
theorem errF_append (a b : Fs) : errF (a ++ b) = if errF a = 0 then errF b else errF a := by
  induction a with
  | nil => simp [errF]
  | cons f a ih =>
    show errF (f :: (a ++ b)) = _
    rw [errF, errF, ih]
    by_cases h : chk f = 0
    · simp [h]
    · simp [h]
theorem errF_take (fs : Fs) (j : Nat) (h : j < fs.length) (h0 : errF (fs.take j) = 0) : errF (fs.take (j + 1)) = chk fs[j] := by
  rw [List.take_succ_eq_append_getElem h, errF_append, if_pos h0]
  simp [errF]
  intro h; exact h.symm
theorem errF_stop (fs : Fs) (j : Nat) (h : j < fs.length) (h0 : errF (fs.take j) = 0) (h1 : chk fs[j] ≠ 0) : errF fs = chk fs[j] := by
  conv => lhs; rw [← List.take_append_drop j fs]
  rw [errF_append, if_pos h0, List.drop_eq_getElem_cons h, errF, if_neg h1]
theorem errF_all (fs : Fs) (h0 : errF fs = 0) (j : Nat) (h : j < fs.length) : chk fs[j] = 0 := by
  induction fs generalizing j with
  | nil => simp at h
  | cons f fs ih =>
    rw [errF] at h0
    by_cases hc : chk f = 0
    · rw [if_pos hc] at h0
      cases j with
      | zero => exact hc
      | succ j => exact ih h0 j (by simpa using h)
    · rw [if_neg hc] at h0; exact absurd h0 hc
theorem chk_zero (f : Int × List UInt8) (h : chk f = 0) : 0 ≤ f.1 ∧ f.1 ≤ 65535 ∧ f.2.length ≤ 65535 := by
  unfold chk at h
  split at h
  · omega
  · split at h <;> omega
def wcode (fs : Fs) : Int := if errF fs = 0 then (if 65535 < (bytesF fs).length then 2 else 0) else errF fs
def wbytes (fs : Fs) : List UInt8 := if wcode fs = 0 then bytesF fs else []

set_option maxRecDepth 100000 in
set_option maxHeartbeats 800000 in
theorem write_any (v : Value) (fs : Fs) (w : World) (hv : SlcF w v fs) (hb : (bytesF fs).length ≤ 1099511627776) :
    Calls Try.prog 26 #[v] w fun e w' => ∃ u, e = .returned (.tuple #[u, .int .i64 (wcode fs)]) ∧ Own w' w.heap.size u (wbytes fs) ∧ Below w.heap.size w w' := by
  obtain ⟨i0, hi, hz0, hz1, hz2⟩ := info_parts info_u8
  have hlen := lenF hv
  have hle := hv.le
  unfold maxLen at hle
  go_enter Try.func26, Try.ntmps26
  go_wp2
  go_loopw [4, 6, 7, 13] (fun s _ _ k wr => ∃ j : Nat, j ≤ fs.length ∧ s = .int .i64 (bytesF (fs.take j)).length ∧ k = .int .i64 j ∧ errF (fs.take j) = 0 ∧ Below w.heap.size w wr) (fun _ _ _ k _ => fs.length - (intOf k).toNat)
  case atStart => exact ⟨0, Nat.zero_le _, rfl, rfl, rfl, Below.refl _ _⟩
  case round =>
    obtain ⟨j, hj, rfl, rfl, he, hbl⟩ := hrel
    have He := Lib.hid he; clear he
    have hs1 := bytesF_le fs j
    by_cases hlt : j < fs.length
    · obtain ⟨b1, q1, u1, hb1, e1, c1, d1, s1⟩ := idxF hv j hlt
      replace c1 := (hbl.cell (p := ⟨b1, q1, none⟩) hb1).trans c1
      replace d1 := (hbl.cell (p := ⟨b1, q1 + 1, none⟩) hb1).trans d1
      replace s1 := s1.below hbl
      have hs2 := bytesF_le fs (j + 1)
      have hs3 : (bytesF (fs.take (j + 1))).length = (bytesF (fs.take j)).length + (4 + fs[j].2.length) := by
        rw [bytesF_take fs j hlt, List.length_append, fldL_length]
      have Hs3 := Lib.hid hs3
      rw [hs3] at hs2
      clear hs3
      have Ht := Lib.hid (errF_take fs j hlt He.out)
      have Hst := Lib.hid (errF_stop fs j hlt He.out)
      generalize fs[j] = f at *
      obtain ⟨t, l⟩ := f
      obtain ⟨A1, k1, rfl, _⟩ := id s1
      by_cases hc : chk (t, l) = 0
      · have hcn : (chk (t, l) != 0) = false := by rw [bne_eq_false_iff_eq]; exact hc
        have Hc := Lib.hid hc; clear hc
        go_wp2_with (go_at_call 35; refine (check_any _ _ l _ (by first | exact (s1.alloc _) | exact s1)).mono ?_; rintro e w1 ⟨rfl, hb2⟩; have hcn1 : w1.cell? ⟨wr.heap.size, 1, none⟩ = some (.slice A1 l.length k1) := (hb2.cell (p := ⟨wr.heap.size, 1, none⟩) (by simp)).trans (cell_new wr _ _ 1 _ rfl))
        have hbl' : Below w.heap.size w w1 := (hbl.alloc hbl.size _).trans (hb2.mono (by have := hbl.size; simp; omega))
        clear hb2 hcn1
        go_roundw
        case rel => exact ⟨j + 1, by omega, by rw [Hs3.out]; go_num, by go_num, by rw [Ht.out, Hc.out], hbl'⟩
        case measure => simp [intOf] <;> omega
      · have hcn : (chk (t, l) != 0) = true := by rw [bne_iff_ne]; exact hc
        have E : Hid (wcode fs = chk (t, l)) := by
          show wcode fs = _
          unfold wcode; rw [if_neg (by rw [Hst.out hc]; exact hc)]; exact Hst.out hc
        have Hc := Lib.hid hc; clear hc
        go_wp2_with (go_at_call 35; refine (check_any _ _ l _ (by first | exact (s1.alloc _) | exact s1)).mono ?_; rintro e w1 ⟨rfl, hb2⟩)
        have hbl' : Below w.heap.size w w1 := (hbl.alloc hbl.size _).trans (hb2.mono (by have := hbl.size; simp; omega))
        go_ret2
        exact ⟨_, by rw [E.out]; rfl, by unfold wbytes; rw [E.out, if_neg Hc.out]; exact Own.nil _ _, hbl'⟩
    · obtain rfl : j = fs.length := by omega
      have hE : errF fs = 0 := by have := He.out; rwa [List.take_length] at this
      have HE := Lib.hid hE; clear hE He
      rw [List.take_length] at *
      by_cases hbig : 65535 < (bytesF fs).length
      · have E : Hid (wcode fs = 2) := by
          show wcode fs = _
          unfold wcode; rw [if_pos HE.out, if_pos hbig]
        go_wp2
        go_ret2
        exact ⟨_, by rw [E.out]; rfl, by unfold wbytes; rw [E.out, if_neg (by decide)]; exact Own.nil _ _, hbl⟩
      · have E : Hid (wcode fs = 0) := by
          show wcode fs = _
          unfold wcode; rw [if_pos HE.out, if_neg hbig]
        go_wp2_with (at_make; refine wpList_make_own _ rfl _ _ 23 rfl w.heap.size 5 i0 _ 1 Try.underlying23 hi hz0 hz1 _ _ _ (bytesF fs).length rfl rfl rfl (by rw [hz2]; omega) (by unfold maxLen; omega) hbl.size ?_; intro w1 hown hg)
        clear hi hz0 hz1 hz2
        have hbl1 : Below w.heap.size w w1 := hbl.grown hg hbl.size (by simp)
        clear hg hbl hs1
        go_loopw [8, 10, 35] (fun s _ k wr => ∃ j : Nat, j ≤ fs.length ∧ Own wr w.heap.size s (bytesF (fs.take j)) ∧ k = .int .i64 j ∧ Below w.heap.size w wr) (fun _ _ k _ => fs.length - (intOf k).toNat)
        case atStart => exact ⟨0, Nat.zero_le _, hown, rfl, hbl1⟩
        case round =>
          clear hown hbl1
          obtain ⟨j, hj, ho, rfl, hbl⟩ := hrel
          rename_i wq
          have hs1 := bytesF_le fs j
          by_cases hlt : j < fs.length
          · obtain ⟨b1, q1, u1, hb1, e1, c1, d1, s1⟩ := idxF hv j hlt
            replace c1 := (hbl.cell (p := ⟨b1, q1, none⟩) hb1).trans c1
            replace d1 := (hbl.cell (p := ⟨b1, q1 + 1, none⟩) hb1).trans d1
            replace s1 := s1.below hbl
            have hs2 := bytesF_le fs (j + 1)
            rw [bytesF_take fs j hlt, List.length_append, fldL_length] at hs2
            have Ht := Lib.hid (bytesF_take fs j hlt)
            obtain ⟨ht0, ht1, hl1⟩ := chk_zero _ (errF_all fs HE.out j hlt)
            generalize fs[j] = f at *
            obtain ⟨t, l⟩ := f
            obtain ⟨t, rfl⟩ := Int.eq_ofNat_of_zero_le ht0
            obtain ⟨A1, k1, rfl, _⟩ := id s1
            replace ht1 : (t : Int) ≤ 65535 := ht1
            replace hl1 : l.length ≤ 65535 := hl1
            clear ht0
            have hfl : [putN t 2, putN l.length 2, l].flatten = fldL ((t : Int), l) := by simp [putN, fldL]
            have Hfl := Lib.hid hfl; clear hfl
            have hw1 : IntKind.u64.wrap (t : Int) = t := u64_in _ (by omega) (by omega)
            have hw2 : IntKind.u64.wrap (l.length : Int) = l.length := u64_in _ (by omega) (by omega)
            go_wp2
            have hS0 : (wr.alloc (.cells #[.int .i64 (t : Int), .slice A1 l.length k1] 41)).cell? ⟨wr.heap.size, 0, none⟩ = some (.int .i64 (t : Int)) ∧ (wr.alloc (.cells #[.int .i64 (t : Int), .slice A1 l.length k1] 41)).cell? ⟨wr.heap.size, 1, none⟩ = some (.slice A1 l.length k1) := ⟨cell_new wr _ _ 0 _ rfl, cell_new wr _ _ 1 _ rfl⟩
            have hb0 : Below w.heap.size w (wr.alloc (.cells #[.int .i64 (t : Int), .slice A1 l.length k1] 41)) := hbl.alloc hbl.size _
            have hlt8 := ho.lt
            have ho0 := ho.alloc (.cells #[.int .i64 (t : Int), .slice A1 l.length k1] 41)
            have s0 := s1.alloc (.cells #[.int .i64 (t : Int), .slice A1 l.length k1] 41)
            have hg0 : wr.heap.size < (wr.alloc (.cells #[.int .i64 (t : Int), .slice A1 l.length k1] 41)).heap.size := by simp
            generalize wr.alloc (.cells #[.int .i64 (t : Int), .slice A1 l.length k1] 41) = W0 at *
            generalize wr.heap.size = g at *
            clear ho hbl s1 c1 d1
            go_region_held3 (fun w' => w'.cell? ⟨g, 0, none⟩ = some (.int .i64 (t : Int)) ∧ w'.cell? ⟨g, 1, none⟩ = some (.slice A1 l.length k1)) (first | exact hS0 | exact hS1 | exact hS2 | exact hS3 | exact hS4 | exact ⟨(World.cell?_alloc_lt _ _ _ (by have := bx1.size; have := bx2.size; simp; omega)).trans hS2.1, (World.cell?_alloc_lt _ _ _ (by have := bx1.size; have := bx2.size; simp; omega)).trans hS2.2⟩)
              (first
                | (go_at_call_of 14 (Value.int IntKind.u64 (t : Int)); refine (put_any t 2 (by omega) _).mono ?_; rintro e w2 ⟨x1, rfl, ox1, bx1⟩; replace bx1 : Below W0.heap.size W0 w2 := (Below.refl W0.heap.size W0).drew.trans bx1; obtain ⟨A2, k2, rfl⟩ := ox1.shape 2 (by simp [putN, putL_length]); have hS1 : w2.cell? ⟨g, 0, none⟩ = some (.int .i64 (t : Int)) ∧ w2.cell? ⟨g, 1, none⟩ = some (.slice A1 l.length k1) := ⟨(bx1.cell (p := ⟨g, 0, none⟩) hg0).trans hS0.1, (bx1.cell (p := ⟨g, 1, none⟩) hg0).trans hS0.2⟩)
                | (go_at_call_of 14 (Value.int IntKind.u64 (l.length : Int)); refine (put_any l.length 2 (by omega) _).mono ?_; rintro e w3 ⟨x2, rfl, ox2, bx2⟩; obtain ⟨A3, k3, rfl⟩ := ox2.shape 2 (by simp [putN, putL_length]); have hS2 : w3.cell? ⟨g, 0, none⟩ = some (.int .i64 (t : Int)) ∧ w3.cell? ⟨g, 1, none⟩ = some (.slice A1 l.length k1) := ⟨(bx2.cell (p := ⟨g, 0, none⟩) (Nat.lt_of_lt_of_le hg0 bx1.size)).trans hS1.1, (bx2.cell (p := ⟨g, 1, none⟩) (Nat.lt_of_lt_of_le hg0 bx1.size)).trans hS1.2⟩)
                | (go_at_call 21; refine (join_any _ _ _ (Slcs.three w3 _ _ _ _ _ _ 23 (ox1.slc.below bx2) ox2.slc ((s0.below bx1).below bx2)) (by simp [sumLen, putN, putL_length]; omega)).mono ?_; rintro e w4 ⟨x3, rfl, ox3, bx3⟩; have hS3 : w4.cell? ⟨g, 0, none⟩ = some (.int .i64 (t : Int)) ∧ w4.cell? ⟨g, 1, none⟩ = some (.slice A1 l.length k1) := ⟨(bx3.cell (p := ⟨g, 0, none⟩) (by have := bx1.size; have := bx2.size; simp; omega)).trans ((World.cell?_alloc_lt _ _ _ (by have := bx1.size; have := bx2.size; simp; omega)).trans hS2.1), (bx3.cell (p := ⟨g, 1, none⟩) (by have := bx1.size; have := bx2.size; simp; omega)).trans ((World.cell?_alloc_lt _ _ _ (by have := bx1.size; have := bx2.size; simp; omega)).trans hS2.2)⟩)
                | (refine step_app _ rfl _ _ rfl w.heap.size _ _ rfl ((((ho0.below bx1).below bx2).alloc _).below bx3) _ _ rfl ox3.slc (by rw [Hfl.out, fldL_length]; exact Nat.le_trans hs2 hb) (by have := hb0.size; have := bx1.size; have := bx2.size; have := bx3.size; simp at *; omega) ?_; intro v' w5 ho' hg'; have hS4 : w5.cell? ⟨g, 0, none⟩ = some (.int .i64 (t : Int)) ∧ w5.cell? ⟨g, 1, none⟩ = some (.slice A1 l.length k1) := ⟨cell_grown hg' (fun k hk => by have := hlt8 k hk; omega) hS3.1 (by have := bx1.size; have := bx2.size; have := bx3.size; simp at *; omega), cell_grown hg' (fun k hk => by have := hlt8 k hk; omega) hS3.2 (by have := bx1.size; have := bx2.size; have := bx3.size; simp at *; omega)⟩))
            all_goals
              rw [Hfl.out, ← Ht.out] at ho'
              have hbl' : Below w.heap.size w w5 := by
                have z0 := hb0.size
                have z1 := bx1.size
                have z2 := bx2.size
                have hb4 : Below w.heap.size w w4 := (((hb0.trans (bx1.mono z0)).trans (bx2.mono (by omega))).alloc (by omega) _).trans (bx3.mono (by simp; omega))
                exact hb4.grown hg' hb4.size ho0.base
              clear hg' ho0 bx1 bx2 bx3 hS0 hS1 hS2 hS3 hS4 hb0
              go_wp2
              go_roundw
              case rel => exact ⟨j + 1, by omega, ho', by go_num, hbl'⟩
              case measure => simp [intOf] <;> omega
          · obtain rfl : j = fs.length := by omega
            rw [List.take_length] at ho
            go_wp2
            go_ret2
            exact ⟨_, by rw [E.out]; rfl, by unfold wbytes; rw [E.out, if_pos rfl]; exact ho, hbl⟩

end Go.Proofs.Ytbfmabjpjblpaaa
