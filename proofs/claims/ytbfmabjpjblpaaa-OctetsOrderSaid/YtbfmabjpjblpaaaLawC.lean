/- The laws of layer 1 on the order of numbers and on joining: every call returns true. -/
import Derived.Test.YtbfmabjpjblpaaaLawB
set_option linter.unusedVariables false
set_option linter.unusedSimpArgs false
namespace Go.Proofs.Ytbfmabjpjblpaaa
open Go.ChangeShapes Go.WideShapes Go.ChangeAt Go.RowKit
open Go.ChangeMaps (open_string shut_string)

theorem putL_cons (v k : Nat) : putL v (k + 1) = UInt8.ofNat (v / 256 ^ k) :: putL (v % 256 ^ k) k := by
  unfold putL
  rw [List.range_succ_eq_map, List.map_cons, List.map_map]
  congr 1
  apply List.map_congr_left
  intro i hi
  have hi' : i < k := List.mem_range.1 hi
  show UInt8.ofNat (v / 256 ^ (k + 1 - 1 - (i + 1))) = UInt8.ofNat (v % 256 ^ k / 256 ^ (k - 1 - i))
  rw [show k + 1 - 1 - (i + 1) = k - 1 - i by omega]
  have e : 256 ^ k = 256 ^ (k - 1 - i) * 256 ^ (i + 1) := by rw [← Nat.pow_add]; congr 1; omega
  rw [e, Nat.mod_mul_right_div_self, ← UInt8.toNat_inj, UInt8.toNat_ofNat', UInt8.toNat_ofNat']
  have e2 : (256 : Nat) ^ (i + 1) = 256 * 256 ^ i := Nat.pow_succ'
  rw [e2, show (2 : Nat) ^ 8 = 256 from rfl, Nat.mod_mul_right_mod]
theorem less_putL (k : Nat) : ∀ v w, v < 256 ^ k → w < 256 ^ k → Op.bytesLess (putL v k) (putL w k) = decide (v < w) := by
  induction k with
  | zero => intro v w hv hw; simp at hv hw; subst hv; subst hw; rfl
  | succ k ih =>
    intro v w hv hw
    have hp : 0 < 256 ^ k := Nat.pow_pos (by decide)
    have hv' : v / 256 ^ k < 256 := by rw [Nat.div_lt_iff_lt_mul hp]; rwa [Nat.pow_succ, Nat.mul_comm] at hv
    have hw' : w / 256 ^ k < 256 := by rw [Nat.div_lt_iff_lt_mul hp]; rwa [Nat.pow_succ, Nat.mul_comm] at hw
    rw [putL_cons, putL_cons, Op.bytesLess, ih _ _ (Nat.mod_lt _ hp) (Nat.mod_lt _ hp)]
    have dv := Nat.div_add_mod v (256 ^ k)
    have dw := Nat.div_add_mod w (256 ^ k)
    have mv := Nat.mod_lt v hp
    have mw := Nat.mod_lt w hp
    generalize v / 256 ^ k = a at *
    generalize w / 256 ^ k = b at *
    generalize v % 256 ^ k = c at *
    generalize w % 256 ^ k = d at *
    generalize 256 ^ k = p at *
    rw [Bool.eq_iff_iff]
    simp only [Bool.or_eq_true, Bool.and_eq_true, decide_eq_true_eq, beq_iff_eq, UInt8.lt_iff_toNat_lt, ← UInt8.toNat_inj, UInt8.toNat_ofNat']
    rw [show a % 2 ^ 8 = a from Nat.mod_eq_of_lt hv', show b % 2 ^ 8 = b from Nat.mod_eq_of_lt hw']
    subst dv
    subst dw
    constructor
    · rintro (h | ⟨rfl, h⟩)
      · have : p * (a + 1) ≤ p * b := Nat.mul_le_mul_left _ h
        rw [Nat.mul_add] at this
        omega
      · omega
    · intro h
      rcases Nat.lt_trichotomy a b with h1 | h1 | h1
      · exact .inl h1
      · subst h1; exact .inr ⟨rfl, by omega⟩
      · have : p * (b + 1) ≤ p * a := Nat.mul_le_mul_left _ h1
        rw [Nat.mul_add] at this
        omega
theorem putL_inj (k v w : Nat) (hv : v < 256 ^ k) (hw : w < 256 ^ k) : (putL v k == putL w k) = decide (v = w) := by
  rw [Bool.eq_iff_iff, beq_iff_eq, decide_eq_true_iff]
  constructor
  · intro h
    have := congrArg (valN 0) h
    rwa [valN_putL, valN_putL, Nat.mod_eq_of_lt hv, Nat.mod_eq_of_lt hw] at this
  · rintro rfl; rfl
theorem putL_long (v d : Nat) (hv : v < 256 ^ 8) : putL v (8 + d) = List.replicate d 0 ++ putL v 8 := by
  induction d with
  | zero => rfl
  | succ d ih =>
    have h2 : 256 ^ 8 ≤ 256 ^ (8 + d) := Nat.pow_le_pow_right (by decide) (by omega)
    have hd : v / 256 ^ (8 + d) = 0 := Nat.div_eq_of_lt (by omega)
    have hm : v % 256 ^ (8 + d) = v := Nat.mod_eq_of_lt (by omega)
    rw [show 8 + (d + 1) = 8 + d + 1 by omega, putL_cons, hd, hm, ih, List.replicate_succ]
    rfl
set_option maxHeartbeats 800000 in
theorem orderlaw_core (w : World) (a0 : Nat) (hu : a0 < 18446744073709551616) (a1 : Nat) (hu1 : a1 < 18446744073709551616) (a2 c : Int) (d : Nat) (h1 : -9223372036854775808 ≤ a2 ∧ a2 ≤ 9223372036854775807) (hc : a2.tmod 57 = c) (hc1 : -57 < c) (hc2 : c < 57) (hd : (c + 57) % 57 = d) (hd2 : d < 57) :
    Calls Try.prog 9 #[.int .u64 a0, .int .u64 a1, .int .i64 a2] w fun e w' => e = .returned (.bool true) ∧ Below w.heap.size w w' := by
  have hl : putN a0 (8 + (d : Int)) = List.replicate d 0 ++ putL a0 8 := by
    unfold putN
    rw [if_pos (by omega), show (8 + (d : Int)).toNat = 8 + d by omega, putL_long a0 d (by omega)]
  have hp8 : ∀ x, putN x 8 = putL x 8 := fun x => rfl
  have Hl := Lib.hid hl
  have Hp8 := Lib.hid hp8
  clear hl hp8
  have hless := less_putL 8 a0 a1 (by omega) (by omega)
  have hsame : (putL a0 8 == putL a1 8) = ((a0 : Int) == (a1 : Int)) := by
    rw [putL_inj 8 a0 a1 (by omega) (by omega), Bool.eq_iff_iff, decide_eq_true_iff, beq_iff_eq]; omega
  go_enter Try.func9, Try.ntmps9
  go_wp2_with (first
    | (go_at_call_of 14 (Value.int .u64 (a1 : Int)); refine (put_any _ 8 hu1 _).mono ?_; rintro e w2 ⟨p2, rfl, op2, b2⟩; rw [Hp8.out] at op2)
    | (go_at_call 14; first | (have tk := b2; refine (put_any _ (8 + (d : Int)) hu _).mono ?_; rintro e w3 ⟨p3, rfl, op3, b3⟩; clear tk; rw [Hl.out] at op3; have s1 := (op1.slc.below b2).below b3; have s2 := op2.slc.below b3; have s3 := op3.slc; have l1 := lenV s1; have l2 := lenV s2; have l3 := lenV s3; rw [putL_length] at l1 l2; rw [List.length_append, List.length_replicate, putL_length, Int.natCast_add] at l3) | (refine (put_any _ 8 hu _).mono ?_; rintro e w1 ⟨p1, rfl, op1, b1⟩; rw [Hp8.out] at op1)))
  clear op1 op2 op3
  have hbb : Below w.heap.size w w3 := bstep (bstep b1 b2) b3
  clear b1 b2 b3 l1 l2 l3
  go_loop [10] (fun k => ∃ i : Nat, i ≤ d ∧ k = .int .i64 i) (fun k => d - (intOf k).toNat)
  case atStart => exact ⟨0, Nat.zero_le _, rfl⟩
  case round =>
    obtain ⟨i, hi, rfl⟩ := hrel
    by_cases hlt : i < d
    · obtain ⟨p, _, hix, hc0⟩ := idxV s3 i (by simp; omega)
      have e0 : (List.replicate d (0 : UInt8) ++ putL a0 8)[i]'(by simp; omega) = 0 := by
        rw [List.getElem_append_left (by simpa using hlt), List.getElem_replicate]
      rw [e0] at hc0
      clear e0
      go_wp2
      go_round
      case rel => exact ⟨i + 1, by omega, by go_num⟩
      case measure => simp [intOf] <;> omega
    · obtain rfl : i = d := by omega
      obtain ⟨A4, k4, s4, hcut⟩ := cutL s3 i (by simp)
      rw [List.drop_append_of_le_length (by simp), List.drop_of_length_le (by simp), List.nil_append] at s4
      rw [show (List.replicate i (0 : UInt8) ++ putL a0 8).length - i = 8 by simp [putL_length]] at s4 hcut
      have he8 : (8 + (i : Int) - 8) = i := by omega
      go_wp2_with (first
        | (go_at_call 10; refine (known_any _).mono ?_; rintro e w4 ⟨rfl, b4⟩; have r1 := s1.below b4; have r2 := s2.below b4; have r4 := s4.below b4; have t1 := r1.str (P := Try.prog) 23 9 5 Try.underlying23 Try.underlying5 Try.underlying9; have t2 := r2.str (P := Try.prog) 23 9 5 Try.underlying23 Try.underlying5 Try.underlying9)
        | (go_at_call_of 13 p2; refine (same_any _ _ _ _ _ r1 r2).mono ?_; rintro e w' ⟨rfl, rfl⟩)
        | (go_at_call 13; refine (same_any _ _ _ _ _ r4 r1).mono ?_; rintro e w' ⟨rfl, rfl⟩))
      go_ret
      exact ⟨rfl, bstep hbb b4⟩
theorem orderlaw_walk (w : World) (a0 : Int) (h0 : 0 ≤ a0 ∧ a0 ≤ 18446744073709551615) (a1 : Int) (h1 : 0 ≤ a1 ∧ a1 ≤ 18446744073709551615) (a2 : Int) (h2 : -9223372036854775808 ≤ a2 ∧ a2 ≤ 9223372036854775807) :
    Calls Try.prog 9 #[.int .u64 a0, .int .u64 a1, .int .i64 a2] w fun e w' => e = .returned (.bool true) ∧ Below w.heap.size w w' := by
  obtain ⟨a0, rfl⟩ := Int.eq_ofNat_of_zero_le h0.1
  obtain ⟨a1, rfl⟩ := Int.eq_ofNat_of_zero_le h1.1
  have hb1 : -57 < a2.tmod 57 := by rw [Int.tmod_eq_emod]; split <;> omega
  have hb2 : a2.tmod 57 < 57 := Int.tmod_lt_of_pos a2 (by decide)
  exact orderlaw_core w a0 (by omega) a1 (by omega) a2 _ ((a2.tmod 57 + 57) % 57).toNat h2 rfl hb1 hb2 (by omega) (by omega)
namespace octetsOrder
set_option maxRecDepth 100000 in
theorem lifted (os : Os) (started : os.Started) (H : Type) (enc : TypeId × Value → H) :
    ReturnsInHanded {} Try.checked os 9 .any (Rows.octetsOrderSpec.pre6 enc Try.prog Try.f9 Rows.octetsOrderRow.domain false) (Rows.octetsOrderSpec.post enc Try.prog Try.f9 false true false false) := by
  refine returnsInHanded_of_change (C := Try.checked) own started (by kernel_rfl) Try.func9
    (ChangeSpec.witness6 (enc := enc) (C := Try.checked) false ⟨#[], #[.int .u64 0, .int .u64 0, .int .i64 0], []⟩ 8 (by kernel_rfl) (by kernel_rfl) (by kernel_rfl) (by kernel_rfl)) ?_
  intro W base args ds gs before hval0 hW hcnd _
  have hval : ∀ (j : Nat) t v, Try.f9.params[j]? = some t → args[j]? = some v → Value.okWide Try.prog W .any base t v := hval0
  have hW' := hW
  obtain ⟨p, q, hA0, hV, rfl, hfz, hnd⟩ := hW
  have hA : DataW.TrodAll enc Try.prog W 0 (fun _ => true) true Try.f9.params.toList args.toList ds p := hA0
  rw [Try.params9] at hA hval
  obtain ⟨v0, vs0, d0, ds0, p0, q0, hargs, rfl, rfl, h0, r0⟩ := trodAll_cons hA
  obtain ⟨v1, vs1, d1, ds1, p1, q1, rfl, rfl, rfl, h1, r1⟩ := trodAll_cons r0
  obtain ⟨v2, vs2, d2, ds2, p2, q2, rfl, rfl, rfl, h2, r2⟩ := trodAll_cons r1
  obtain ⟨rfl, rfl, rfl⟩ := trodAll_nil r2
  obtain rfl : args = #[v0, v1, v2] := by cases args; simp_all
  obtain ⟨rfl, rfl⟩ := trodVars_none hV
  obtain ⟨a0, rfl, rfl, rfl, w0⟩ := open_int Try.underlying22 (hval 0 22 v0 rfl rfl) h0
  obtain ⟨a1, rfl, rfl, rfl, w1⟩ := open_int Try.underlying22 (hval 1 22 v1 rfl rfl) h1
  obtain ⟨a2, rfl, rfl, rfl, w2⟩ := open_int Try.underlying3 (hval 2 3 v2 rfl rfl) h2
  clear hA0 hval0
  refine (orderlaw_walk W a0 (bounds_u64 w0) a1 (bounds_u64 w1) a2 (bounds_i64 w2)).mono fun e W' ⟨he, bel⟩ => ?_
  subst he
  exact ⟨_, rfl, _, _, _, [], _, [], hW', trodAll_mk1 (shut_bool Try.underlying4 _), (trodAll_cons_mk (shut_int Try.underlying22 w0) (trodAll_cons_mk (shut_int Try.underlying22 w1) (trodAll_cons_mk (shut_int Try.underlying3 w2) trodAll_mk0))), rfl, bel.frame _, fun h => by cases h⟩
theorem proved : Rows.OctetsOrderSaid :=
  OpenClaim.holds_of_wide 9 Try.f9 rfl rfl rfl rfl rfl rfl rfl ⟨rfl, rfl, rfl, rfl, rfl⟩ rfl rfl rfl rfl rfl (by kernel_rfl) Try.func9 (by kernel_rfl)
    (of_decide_eq_true (by kernel_rfl)) (by unfold Func.isWrapper; first | (rw [if_pos (by decide +kernel)]; kernel_rfl) | (rw [if_neg (by decide +kernel)]; exact ⟨rfl, rfl⟩))
    (fun os started H enc _ => lifted os started H enc)
end octetsOrder

end Go.Proofs.Ytbfmabjpjblpaaa
