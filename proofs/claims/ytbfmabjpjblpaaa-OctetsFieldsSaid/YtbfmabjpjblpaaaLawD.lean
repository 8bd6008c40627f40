/- The law of layer 1 on joining and padding: every call returns true. -/
import Derived.Test.YtbfmabjpjblpaaaLawC
set_option linter.unusedVariables false
set_option linter.unusedSimpArgs false
namespace Go.Proofs.Ytbfmabjpjblpaaa
open Go.ChangeShapes Go.WideShapes Go.ChangeAt Go.RowKit
open Go.ChangeMaps (open_string shut_string)

set_option maxRecDepth 100000 in
set_option maxHeartbeats 1600000 in
theorem joinlaw_pos (w : World) (u1 : Value) (l1 : List UInt8) (q1 : Slc w u1 l1) (u2 : Value) (l2 : List UInt8) (q2 : Slc w u2 l2) (u3 : Value) (l3 : List UInt8) (q3 : Slc w u3 l3) (a3 c : Int) (n m : Nat) (L T : List UInt8) (h3 : -9223372036854775808 ≤ a3 ∧ a3 ≤ 9223372036854775807)
    (g1 : l1.length ≤ 60) (g2 : l2.length ≤ 60) (g3 : l3.length ≤ 60) (hc : a3.tmod 64 = c) (hc0 : 0 ≤ c) (hc1 : c < 64) (hn : 1 + c = n) (hm : m < n) (hn64 : n ≤ 64) (fl3 : Hid ([l1, l2, l3].flatten = L)) (fl2 : Hid ([l2, l3].flatten = T)) (flT : Hid ([l1, T].flatten = L)) (ck : cutOk L (l1.length : Int) = true)
    (ck1 : Hid (cut1 L (l1.length : Int) = l1)) (ck2 : Hid (cut2 L (l1.length : Int) = T)) (hp : Hid (padL L n = L ++ List.replicate m 0)) (hm0 : (((L.length : Int) + m) % n != 0) = false) (hL : L.length ≤ 180) (hT : T.length ≤ 120) (tot : Hid (sumLen [l1, l2, l3] ≤ 180))
    (hstr : (⟨l1.toArray⟩ ++ ⟨l2.toArray⟩ ++ ⟨l3.toArray⟩ : ByteArray).toList = L) :
    Calls Try.prog 5 #[u1, u2, u3, .int .i64 a3] w fun e w' => e = .returned (.bool true) ∧ Below w.heap.size w w' := by
  have n1 := lenV q1
  have n2 := lenV q2
  have n3 := lenV q3
  obtain ⟨A1, k1, rfl⟩ := q1.shape
  obtain ⟨A2, k2, rfl⟩ := q2.shape
  obtain ⟨A3, k3, rfl⟩ := q3.shape
  go_enter Try.func5, Try.ntmps5
  go_wp2_with (first
    | (go_at_call 11; refine (cut_any _ L _ _ t1 (by omega)).mono ?_; rintro e w2 ⟨ch, ct, rfl, oh, ot, b2⟩; rw [ck1.out] at oh; rw [ck2.out] at ot; obtain ⟨Ah, kh, rfl⟩ := oh.slc.shape; obtain ⟨At, kt, rfl⟩ := ot.slc.shape; have q1' := (q1.below (Below_al b1)).below b2)
    | (go_at_call_of 18 (Value.slice Ah l1.length kh); refine (rsame_any _ _ _ _ _ oh.slc q1').mono ?_; rintro e w' ⟨rfl, rfl⟩)
    | (go_at_call_of 18 p2; refine (rsame_any _ _ _ _ _ o2.slc ((t1.below b2).below (Below_al b3))).mono ?_; rintro e w' ⟨rfl, rfl⟩; have b3' := Below_al b3; have c1 := q1'.below b3'; have c2 := ((q2.below (Below_al b1)).below b2).below b3'; have c3 := ((q3.below (Below_al b1)).below b2).below b3'; have ca := (t1.below b2).below b3'; have cb := ot.slc.below b3')
    | (go_at_call 13; refine (same_any _ _ _ _ _ (cb.below (Below_al b4)) o3.slc).mono ?_; rintro e w' ⟨rfl, rfl⟩; have b4' := Below_al b4; have s1 := c1.below b4'; have s2 := c2.below b4'; have s3 := c3.below b4'; have sa := ca.below b4'; have x1 := s1.str (P := Try.prog) 23 9 5 Try.underlying23 Try.underlying5 Try.underlying9; have x2 := s2.str (P := Try.prog) 23 9 5 Try.underlying23 Try.underlying5 Try.underlying9; have x3 := s3.str (P := Try.prog) 23 9 5 Try.underlying23 Try.underlying5 Try.underlying9; have xa := sa.str (P := Try.prog) 23 9 5 Try.underlying23 Try.underlying5 Try.underlying9)
    | (go_at_call 19; refine (pad_any _ L _ _ sa (by omega)).mono ?_; rintro e w5 ⟨p4, rfl, o4, b5⟩; rw [hp.out] at o4; have d4 := lenV o4.slc; rw [List.length_append, List.length_replicate, Int.natCast_add] at d4; obtain ⟨A5, k5, s5, e5⟩ := cutH o4.slc L.length (by simp); rw [List.take_left] at s5)
    | (go_at_call_of 18 (Value.slice A5 L.length k5); refine (rsame_any _ _ _ _ _ s5 (sa.below b5)).mono ?_; rintro e w' ⟨rfl, rfl⟩)
    | (go_at_call 21; first | (have tk := c1; refine (join_any _ _ _ (Slcs.two w3 _ _ _ _ 23 c2 c3) (by simp [sumLen]; omega)).mono ?_; rintro e w4 ⟨p3, rfl, o3, b4⟩; rw [fl2.out] at o3; clear tk) | (have tk := ot; refine (join_any _ _ _ (Slcs.two w2 _ _ _ _ 23 oh.slc ot.slc) (by simp [sumLen]; omega)).mono ?_; rintro e w3 ⟨p2, rfl, o2, b3⟩; rw [flT.out] at o2; clear tk) | (refine (join_any _ _ _ (Slcs.three w _ _ _ _ _ _ 23 q1 q2 q3) (by have := tot.out; omega)).mono ?_; rintro e w1 ⟨p1, rfl, o1, b1⟩; rw [fl3.out] at o1; have t1 := o1.slc; have d1 := lenV t1))
    )
  have bb : Below w.heap.size w w5 := bstep (bstep (bstep (bstep (Below_al b1) b2) b3') b4') b5
  have s4 := o4.slc
  clear b1 b2 b3 b3' b4 b4' b5 o1 o2 o3 o4 oh ot t1 x1 x2 x3 xa hstr
  go_loop [14] (fun k => ∃ i : Nat, i ≤ m ∧ k = .int .i64 (L.length + i)) (fun k => L.length + m - (intOf k).toNat)
  case atStart => exact ⟨0, Nat.zero_le _, by simp⟩
  case round =>
    obtain ⟨i, hi, rfl⟩ := hrel
    by_cases hlt : i < m
    · obtain ⟨p, _, hix, hc0⟩ := idxV s4 (L.length + i) (by simp; omega)
      have e0 : (L ++ List.replicate m (0 : UInt8))[L.length + i]'(by simp; omega) = 0 := by
        rw [List.getElem_append_right (by omega), List.getElem_replicate]
      rw [e0] at hc0
      rw [Int.natCast_add] at hix
      clear e0
      go_wp2
      go_round
      case rel => exact ⟨i + 1, by omega, by go_num⟩
      case measure => simp [intOf] <;> omega
    · obtain rfl : i = m := by omega
      go_wp2_with (go_at_call 10; refine (known_any _).mono ?_; rintro e w6 ⟨rfl, b6⟩)
      go_ret
      exact ⟨rfl, bstep bb b6⟩
set_option maxRecDepth 100000 in
set_option maxHeartbeats 1600000 in
theorem joinlaw_neg (w : World) (u1 : Value) (l1 : List UInt8) (q1 : Slc w u1 l1) (u2 : Value) (l2 : List UInt8) (q2 : Slc w u2 l2) (u3 : Value) (l3 : List UInt8) (q3 : Slc w u3 l3) (a3 c : Int) (n m : Nat) (L T : List UInt8) (h3 : -9223372036854775808 ≤ a3 ∧ a3 ≤ 9223372036854775807)
    (g1 : l1.length ≤ 60) (g2 : l2.length ≤ 60) (g3 : l3.length ≤ 60) (hc : a3.tmod 64 = c) (hc0 : c < 0) (hc1 : -64 < c) (hn : 2 - (1 + c) = n) (hm : m < n) (hn64 : n ≤ 64) (fl3 : Hid ([l1, l2, l3].flatten = L)) (fl2 : Hid ([l2, l3].flatten = T)) (flT : Hid ([l1, T].flatten = L)) (ck : cutOk L (l1.length : Int) = true)
    (ck1 : Hid (cut1 L (l1.length : Int) = l1)) (ck2 : Hid (cut2 L (l1.length : Int) = T)) (hp : Hid (padL L n = L ++ List.replicate m 0)) (hm0 : (((L.length : Int) + m) % n != 0) = false) (hL : L.length ≤ 180) (hT : T.length ≤ 120) (tot : Hid (sumLen [l1, l2, l3] ≤ 180))
    (hstr : (⟨l1.toArray⟩ ++ ⟨l2.toArray⟩ ++ ⟨l3.toArray⟩ : ByteArray).toList = L) :
    Calls Try.prog 5 #[u1, u2, u3, .int .i64 a3] w fun e w' => e = .returned (.bool true) ∧ Below w.heap.size w w' := by
  have n1 := lenV q1
  have n2 := lenV q2
  have n3 := lenV q3
  obtain ⟨A1, k1, rfl⟩ := q1.shape
  obtain ⟨A2, k2, rfl⟩ := q2.shape
  obtain ⟨A3, k3, rfl⟩ := q3.shape
  go_enter Try.func5, Try.ntmps5
  go_wp2_with (first
    | (go_at_call 11; refine (cut_any _ L _ _ t1 (by omega)).mono ?_; rintro e w2 ⟨ch, ct, rfl, oh, ot, b2⟩; rw [ck1.out] at oh; rw [ck2.out] at ot; obtain ⟨Ah, kh, rfl⟩ := oh.slc.shape; obtain ⟨At, kt, rfl⟩ := ot.slc.shape; have q1' := (q1.below (Below_al b1)).below b2)
    | (go_at_call_of 18 (Value.slice Ah l1.length kh); refine (rsame_any _ _ _ _ _ oh.slc q1').mono ?_; rintro e w' ⟨rfl, rfl⟩)
    | (go_at_call_of 18 p2; refine (rsame_any _ _ _ _ _ o2.slc ((t1.below b2).below (Below_al b3))).mono ?_; rintro e w' ⟨rfl, rfl⟩; have b3' := Below_al b3; have c1 := q1'.below b3'; have c2 := ((q2.below (Below_al b1)).below b2).below b3'; have c3 := ((q3.below (Below_al b1)).below b2).below b3'; have ca := (t1.below b2).below b3'; have cb := ot.slc.below b3')
    | (go_at_call 13; refine (same_any _ _ _ _ _ (cb.below (Below_al b4)) o3.slc).mono ?_; rintro e w' ⟨rfl, rfl⟩; have b4' := Below_al b4; have s1 := c1.below b4'; have s2 := c2.below b4'; have s3 := c3.below b4'; have sa := ca.below b4'; have x1 := s1.str (P := Try.prog) 23 9 5 Try.underlying23 Try.underlying5 Try.underlying9; have x2 := s2.str (P := Try.prog) 23 9 5 Try.underlying23 Try.underlying5 Try.underlying9; have x3 := s3.str (P := Try.prog) 23 9 5 Try.underlying23 Try.underlying5 Try.underlying9; have xa := sa.str (P := Try.prog) 23 9 5 Try.underlying23 Try.underlying5 Try.underlying9)
    | (go_at_call 19; refine (pad_any _ L _ _ sa (by omega)).mono ?_; rintro e w5 ⟨p4, rfl, o4, b5⟩; rw [hp.out] at o4; have d4 := lenV o4.slc; rw [List.length_append, List.length_replicate, Int.natCast_add] at d4; obtain ⟨A5, k5, s5, e5⟩ := cutH o4.slc L.length (by simp); rw [List.take_left] at s5)
    | (go_at_call_of 18 (Value.slice A5 L.length k5); refine (rsame_any _ _ _ _ _ s5 (sa.below b5)).mono ?_; rintro e w' ⟨rfl, rfl⟩)
    | (go_at_call 21; first | (have tk := c1; refine (join_any _ _ _ (Slcs.two w3 _ _ _ _ 23 c2 c3) (by simp [sumLen]; omega)).mono ?_; rintro e w4 ⟨p3, rfl, o3, b4⟩; rw [fl2.out] at o3; clear tk) | (have tk := ot; refine (join_any _ _ _ (Slcs.two w2 _ _ _ _ 23 oh.slc ot.slc) (by simp [sumLen]; omega)).mono ?_; rintro e w3 ⟨p2, rfl, o2, b3⟩; rw [flT.out] at o2; clear tk) | (refine (join_any _ _ _ (Slcs.three w _ _ _ _ _ _ 23 q1 q2 q3) (by have := tot.out; omega)).mono ?_; rintro e w1 ⟨p1, rfl, o1, b1⟩; rw [fl3.out] at o1; have t1 := o1.slc; have d1 := lenV t1))
    )
  have bb : Below w.heap.size w w5 := bstep (bstep (bstep (bstep (Below_al b1) b2) b3') b4') b5
  have s4 := o4.slc
  clear b1 b2 b3 b3' b4 b4' b5 o1 o2 o3 o4 oh ot t1 x1 x2 x3 xa hstr
  go_loop [14] (fun k => ∃ i : Nat, i ≤ m ∧ k = .int .i64 (L.length + i)) (fun k => L.length + m - (intOf k).toNat)
  case atStart => exact ⟨0, Nat.zero_le _, by simp⟩
  case round =>
    obtain ⟨i, hi, rfl⟩ := hrel
    by_cases hlt : i < m
    · obtain ⟨p, _, hix, hc0⟩ := idxV s4 (L.length + i) (by simp; omega)
      have e0 : (L ++ List.replicate m (0 : UInt8))[L.length + i]'(by simp; omega) = 0 := by
        rw [List.getElem_append_right (by omega), List.getElem_replicate]
      rw [e0] at hc0
      rw [Int.natCast_add] at hix
      clear e0
      go_wp2
      go_round
      case rel => exact ⟨i + 1, by omega, by go_num⟩
      case measure => simp [intOf] <;> omega
    · obtain rfl : i = m := by omega
      go_wp2_with (go_at_call 10; refine (known_any _).mono ?_; rintro e w6 ⟨rfl, b6⟩)
      go_ret
      exact ⟨rfl, bstep bb b6⟩
theorem joinlaw_known (w : World) (u1 : Value) (l1 : List UInt8) (q1 : Slc w u1 l1) (u2 : Value) (l2 : List UInt8) (q2 : Slc w u2 l2) (u3 : Value) (l3 : List UInt8) (q3 : Slc w u3 l3) (a3 : Int)
    (g : 60 < l1.length ∨ 60 < l2.length ∨ 60 < l3.length) :
    Calls Try.prog 5 #[u1, u2, u3, .int .i64 a3] w fun e w' => e = .returned (.bool true) ∧ Below w.heap.size w w' := by
  have n1 := lenV q1
  have n2 := lenV q2
  have n3 := lenV q3
  by_cases g1 : 60 < l1.length
  · go_enter Try.func5, Try.ntmps5
    go_wp2_with (go_at_call 10; refine (known_any _).mono ?_; rintro e w6 ⟨rfl, b6⟩)
    go_ret
    exact ⟨rfl, b6⟩
  · have g1' : l1.length ≤ 60 := by omega
    by_cases g2 : 60 < l2.length
    · clear g g1
      go_enter Try.func5, Try.ntmps5
      go_wp2_with (go_at_call 10; refine (known_any _).mono ?_; rintro e w6 ⟨rfl, b6⟩)
      go_ret
      exact ⟨rfl, b6⟩
    · have g2' : l2.length ≤ 60 := by omega
      have g3 : 60 < l3.length := by omega
      clear g g1 g2
      go_enter Try.func5, Try.ntmps5
      go_wp2_with (go_at_call 10; refine (known_any _).mono ?_; rintro e w6 ⟨rfl, b6⟩)
      go_ret
      exact ⟨rfl, b6⟩
theorem str_join (a b c : List UInt8) : (⟨a.toArray⟩ ++ ⟨b.toArray⟩ ++ ⟨c.toArray⟩ : ByteArray).toList = a ++ b ++ c := by
  have e : (⟨a.toArray⟩ ++ ⟨b.toArray⟩ ++ ⟨c.toArray⟩ : ByteArray) = ⟨(a ++ b ++ c).toArray⟩ := by
    apply ByteArray.ext
    simp
  rw [e]
  simp [go_sem]
theorem pad_facts (L : List UInt8) (n : Nat) (h1 : 1 ≤ n) (h2 : n ≤ 64) : ∃ m, m < n ∧ padL L n = L ++ List.replicate m 0 ∧ (((L.length : Int) + m) % n != 0) = false := by
  obtain ⟨p1, p2, p3⟩ := pad_least L.length n (by omega)
  refine ⟨_, p3, ?_, ?_⟩
  · unfold padL
    rw [if_pos (by omega), pad_cast _ _ (by omega)]
  · rw [bne_eq_false_iff_eq, ← Int.natCast_add, ← Int.natCast_emod, p2]; rfl
theorem joinlaw_walk (w : World) (u1 : Value) (l1 : List UInt8) (q1 : Slc w u1 l1) (u2 : Value) (l2 : List UInt8) (q2 : Slc w u2 l2) (u3 : Value) (l3 : List UInt8) (q3 : Slc w u3 l3) (a3 : Int) (h3 : -9223372036854775808 ≤ a3 ∧ a3 ≤ 9223372036854775807) :
    Calls Try.prog 5 #[u1, u2, u3, .int .i64 a3] w fun e w' => e = .returned (.bool true) ∧ Below w.heap.size w w' := by
  by_cases g : 60 < l1.length ∨ 60 < l2.length ∨ 60 < l3.length
  · exact joinlaw_known w u1 l1 q1 u2 l2 q2 u3 l3 q3 a3 g
  · have g1 : l1.length ≤ 60 := by omega
    have g2 : l2.length ≤ 60 := by omega
    have g3 : l3.length ≤ 60 := by omega
    have hb1 : -64 < a3.tmod 64 := by rw [Int.tmod_eq_emod]; split <;> omega
    have hb2 : a3.tmod 64 < 64 := Int.tmod_lt_of_pos a3 (by decide)
    have ck : cutOk (l1 ++ l2 ++ l3) (l1.length : Int) = true := by
      unfold cutOk
      rw [decide_eq_true_iff]
      simp only [List.length_append, Int.natCast_add]
      omega
    have ck1 : cut1 (l1 ++ l2 ++ l3) (l1.length : Int) = l1 := by unfold cut1; rw [if_pos ck]; simp
    have ck2 : cut2 (l1 ++ l2 ++ l3) (l1.length : Int) = l2 ++ l3 := by unfold cut2; rw [if_pos ck]; simp
    by_cases hs : 0 ≤ a3.tmod 64
    · obtain ⟨n, hn⟩ := Int.eq_ofNat_of_zero_le (show 0 ≤ 1 + a3.tmod 64 by omega)
      obtain ⟨m, hm, hp, hm0⟩ := pad_facts (l1 ++ l2 ++ l3) n (by omega) (by omega)
      exact joinlaw_pos w u1 l1 q1 u2 l2 q2 u3 l3 q3 a3 _ n m (l1 ++ l2 ++ l3) (l2 ++ l3) h3 g1 g2 g3 rfl hs hb2 hn hm (by omega) (Lib.hid (by simp)) (Lib.hid (by simp)) (Lib.hid (by simp)) ck (Lib.hid ck1) (Lib.hid ck2) (Lib.hid hp) hm0 (by simp; omega) (by simp; omega) (Lib.hid (by simp [sumLen]; omega)) (str_join _ _ _)
    · obtain ⟨n, hn⟩ := Int.eq_ofNat_of_zero_le (show 0 ≤ 2 - (1 + a3.tmod 64) by omega)
      obtain ⟨m, hm, hp, hm0⟩ := pad_facts (l1 ++ l2 ++ l3) n (by omega) (by omega)
      exact joinlaw_neg w u1 l1 q1 u2 l2 q2 u3 l3 q3 a3 _ n m (l1 ++ l2 ++ l3) (l2 ++ l3) h3 g1 g2 g3 rfl (by omega) hb1 hn hm (by omega) (Lib.hid (by simp)) (Lib.hid (by simp)) (Lib.hid (by simp)) ck (Lib.hid ck1) (Lib.hid ck2) (Lib.hid hp) hm0 (by simp; omega) (by simp; omega) (Lib.hid (by simp [sumLen]; omega)) (str_join _ _ _)
namespace octetsJoin
set_option maxRecDepth 100000 in
theorem lifted (os : Os) (started : os.Started) (H : Type) (enc : TypeId × Value → H) :
    ReturnsInHanded {} Try.checked os 5 .any (Rows.octetsJoinSpec.pre6 enc Try.prog Try.f5 Rows.octetsJoinRow.domain false) (Rows.octetsJoinSpec.post enc Try.prog Try.f5 false true false false) := by
  refine returnsInHanded_of_change (C := Try.checked) own started (by kernel_rfl) Try.func5
    (ChangeSpec.witness6 (enc := enc) (C := Try.checked) false ⟨#[], #[.slice none 0 0, .slice none 0 0, .slice none 0 0, .int .i64 0], []⟩ 8 (by kernel_rfl) (by kernel_rfl) (by kernel_rfl) (by kernel_rfl)) ?_
  intro W base args ds gs before hval0 hW hcnd _
  have hval : ∀ (j : Nat) t v, Try.f5.params[j]? = some t → args[j]? = some v → Value.okWide Try.prog W .any base t v := hval0
  have hW' := hW
  obtain ⟨p, q, hA0, hV, rfl, hfz, hnd⟩ := hW
  have hA : DataW.TrodAll enc Try.prog W 0 (fun _ => true) true Try.f5.params.toList args.toList ds p := hA0
  rw [Try.params5] at hA hval
  obtain ⟨v0, vs0, d0, ds0, p0, q0, hargs, rfl, rfl, h0, r0⟩ := trodAll_cons hA
  obtain ⟨v1, vs1, d1, ds1, p1, q1, rfl, rfl, rfl, h1, r1⟩ := trodAll_cons r0
  obtain ⟨v2, vs2, d2, ds2, p2, q2, rfl, rfl, rfl, h2, r2⟩ := trodAll_cons r1
  obtain ⟨v3, vs3, d3, ds3, p3, q3, rfl, rfl, rfl, h3, r3⟩ := trodAll_cons r2
  obtain ⟨rfl, rfl, rfl⟩ := trodAll_nil r3
  obtain rfl : args = #[v0, v1, v2, v3] := by cases args; simp_all
  obtain ⟨rfl, rfl⟩ := trodVars_none hV
  obtain ⟨a0, len0, cap0, rfl⟩ := okWide_slice Try.underlying23 (hval 0 23 v0 rfl rfl)
  have k0 := h0
  have lt0 : ∀ x ∈ p0, x.block < W.heap.size := by obtain ⟨m, hm⟩ := k0; exact DataW.trod_lt m _ _ _ hm
  obtain ⟨l0, s0⟩ := open_bytes h0
  obtain ⟨a1, len1, cap1, rfl⟩ := okWide_slice Try.underlying23 (hval 1 23 v1 rfl rfl)
  have k1 := h1
  have lt1 : ∀ x ∈ p1, x.block < W.heap.size := by obtain ⟨m, hm⟩ := k1; exact DataW.trod_lt m _ _ _ hm
  obtain ⟨l1, s1⟩ := open_bytes h1
  obtain ⟨a2, len2, cap2, rfl⟩ := okWide_slice Try.underlying23 (hval 2 23 v2 rfl rfl)
  have k2 := h2
  have lt2 : ∀ x ∈ p2, x.block < W.heap.size := by obtain ⟨m, hm⟩ := k2; exact DataW.trod_lt m _ _ _ hm
  obtain ⟨l2, s2⟩ := open_bytes h2
  obtain ⟨a3, rfl, rfl, rfl, w3⟩ := open_int Try.underlying3 (hval 3 3 v3 rfl rfl) h3
  clear hA0 hval0
  refine (joinlaw_walk W (.slice a0 len0 cap0) l0 s0 (.slice a1 len1 cap1) l1 s1 (.slice a2 len2 cap2) l2 s2 a3 (bounds_i64 w3)).mono fun e W' ⟨he, bel⟩ => ?_
  subst he
  exact ⟨_, rfl, _, _, _, [], _, [], hW', trodAll_mk1 (shut_bool Try.underlying4 _), (trodAll_cons_mk (Below.trod laidOut (by kernel_rfl) (of_decide_eq_true (by kernel_rfl)) k0 bel lt0) (trodAll_cons_mk (Below.trod laidOut (by kernel_rfl) (of_decide_eq_true (by kernel_rfl)) k1 bel lt1) (trodAll_cons_mk (Below.trod laidOut (by kernel_rfl) (of_decide_eq_true (by kernel_rfl)) k2 bel lt2) (trodAll_cons_mk (shut_int Try.underlying3 w3) trodAll_mk0)))), rfl, bel.frame _, fun h => by cases h⟩
theorem proved : Rows.OctetsJoinSaid :=
  OpenClaim.holds_of_wide 5 Try.f5 rfl rfl rfl rfl rfl rfl rfl ⟨rfl, rfl, rfl, rfl, rfl⟩ rfl rfl rfl rfl rfl (by kernel_rfl) Try.func5 (by kernel_rfl)
    (of_decide_eq_true (by kernel_rfl)) (by unfold Func.isWrapper; first | (rw [if_pos (by decide +kernel)]; kernel_rfl) | (rw [if_neg (by decide +kernel)]; exact ⟨rfl, rfl⟩))
    (fun os started H enc _ => lifted os started H enc)
end octetsJoin

end Go.Proofs.Ytbfmabjpjblpaaa
