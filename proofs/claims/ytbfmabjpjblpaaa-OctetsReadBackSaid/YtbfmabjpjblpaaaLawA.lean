/- The laws of layer 1 on numbers and bytes: every call returns true. -/
import Derived.Test.YtbfmabjpjblpaaaKnown
import Derived.Test.YtbfmabjpjblpaaaOct5
import Derived.Test.YtbfmabjpjblpaaaFrame
set_option linter.unusedVariables false
set_option linter.unusedSimpArgs false
namespace Go.Proofs.Ytbfmabjpjblpaaa
open Go.ChangeShapes Go.WideShapes Go.ChangeAt Go.RowKit
open Go.ChangeMaps (open_string shut_string)

theorem bstep {w a b : World} (h : Below w.heap.size w a) (k : Below a.heap.size a b) : Below w.heap.size w b := h.trans (k.mono h.size)

set_option maxHeartbeats 800000 in
theorem count_walk (w : World) (a0 : Int) (h0 : 0 ≤ a0 ∧ a0 ≤ 18446744073709551615) (a1 : Int) (h1 : -9223372036854775808 ≤ a1 ∧ a1 ≤ 9223372036854775807) (v : Value) (l : List UInt8) (hv : Slc w v l) :
    Calls Try.prog 3 #[.int .u64 a0, .int .i64 a1, v] w fun e w' => e = .returned (.bool true) ∧ Below w.heap.size w w' := by
  obtain ⟨a0, rfl⟩ := Int.eq_ofNat_of_zero_le h0.1
  have hu : a0 < 18446744073709551616 := by omega
  have hlen := lenV hv
  by_cases hl : 200 < l.length
  · go_enter Try.func3, Try.ntmps3
    go_wp2_with (go_at_call 10; refine (known_any _).mono ?_; rintro e w1 ⟨rfl, b1⟩)
    go_ret
    exact ⟨rfl, b1⟩
  · go_enter Try.func3, Try.ntmps3
    go_wp2_with (first
      | (go_at_call 11; refine (cut_any _ l _ _ hv (by omega)).mono ?_; rintro e w1 ⟨c1, c2, rfl, oc1, oc2, b1⟩)
      | (go_at_call 12; refine (rcut_any _ l _ _ (hv.below b1) (by omega)).mono ?_; rintro e w2 ⟨d1, d2, rfl, od1, od2, b2⟩)
      | (go_at_call 10; refine (known_any _).mono ?_; rintro e w3 ⟨rfl, b3⟩)
      | (go_at_call 14; refine (put_any _ _ hu _).mono ?_; rintro e w4 ⟨p1, rfl, op1, b4⟩)
      | (go_at_call 15; refine (rput_any _ _ hu _).mono ?_; rintro e w5 ⟨p2, rfl, op2, b5⟩)
      | (go_at_call 13; refine (same_any _ _ _ _ _ (op1.slc.below b5) op2.slc).mono ?_; rintro e w' ⟨rfl, rfl⟩; have q1 := ((hv.below b1).below b2).below b3; have q2 := (q1.below b4).below b5)
      | (go_at_call 16; refine (get_any _ l _ q2).mono ?_; rintro e w' ⟨rfl, rfl⟩)
      | (go_at_call 17; refine (rget_any _ l _ q2).mono ?_; rintro e w' ⟨rfl, rfl⟩; have t1 := (((oc1.slc.below b2).below b3).below b4).below b5; have t2 := (((oc2.slc.below b2).below b3).below b4).below b5; have t3 := ((od1.slc.below b3).below b4).below b5; have t4 := ((od2.slc.below b3).below b4).below b5)
      | (go_at_call_of 18 c1; refine (rsame_any _ _ _ _ _ t1 t3).mono ?_; rintro e w' ⟨rfl, rfl⟩)
      | (go_at_call_of 18 c2; refine (rsame_any _ _ _ _ _ t2 t4).mono ?_; rintro e w' ⟨rfl, rfl⟩)
      | (go_at_call 19; refine (pad_any _ l _ _ q2 (by omega)).mono ?_; rintro e w6 ⟨e1, rfl, oe1, b6⟩)
      | (go_at_call 20; refine (rpad_any _ l _ _ (q2.below b6) (by omega)).mono ?_; rintro e w7 ⟨e2, rfl, oe2, b7⟩)
      | (go_at_call_of 18 e1; refine (rsame_any _ _ _ _ _ (oe1.slc.below b7) oe2.slc).mono ?_; rintro e w' ⟨rfl, rfl⟩))
    go_ret
    exact ⟨rfl, bstep (bstep (bstep (bstep (bstep (bstep b1 b2) b3) b4) b5) b6) b7⟩
namespace octetsCount
set_option maxRecDepth 100000 in
theorem lifted (os : Os) (started : os.Started) (H : Type) (enc : TypeId × Value → H) :
    ReturnsInHanded {} Try.checked os 3 .any (Rows.octetsCountSpec.pre6 enc Try.prog Try.f3 Rows.octetsCountRow.domain false) (Rows.octetsCountSpec.post enc Try.prog Try.f3 false true false false) := by
  refine returnsInHanded_of_change (C := Try.checked) own started (by kernel_rfl) Try.func3
    (ChangeSpec.witness6 (enc := enc) (C := Try.checked) false ⟨#[], #[.int .u64 0, .int .i64 0, .slice none 0 0], []⟩ 8 (by kernel_rfl) (by kernel_rfl) (by kernel_rfl) (by kernel_rfl)) ?_
  intro W base args ds gs before hval0 hW hcnd _
  have hval : ∀ (j : Nat) t v, Try.f3.params[j]? = some t → args[j]? = some v → Value.okWide Try.prog W .any base t v := hval0
  have hW' := hW
  obtain ⟨p, q, hA0, hV, rfl, hfz, hnd⟩ := hW
  have hA : DataW.TrodAll enc Try.prog W 0 (fun _ => true) true Try.f3.params.toList args.toList ds p := hA0
  rw [Try.params3] at hA hval
  obtain ⟨v0, vs0, d0, ds0, p0, q0, hargs, rfl, rfl, h0, r0⟩ := trodAll_cons hA
  obtain ⟨v1, vs1, d1, ds1, p1, q1, rfl, rfl, rfl, h1, r1⟩ := trodAll_cons r0
  obtain ⟨v2, vs2, d2, ds2, p2, q2, rfl, rfl, rfl, h2, r2⟩ := trodAll_cons r1
  obtain ⟨rfl, rfl, rfl⟩ := trodAll_nil r2
  obtain rfl : args = #[v0, v1, v2] := by cases args; simp_all
  obtain ⟨rfl, rfl⟩ := trodVars_none hV
  obtain ⟨a0, rfl, rfl, rfl, w0⟩ := open_int Try.underlying22 (hval 0 22 v0 rfl rfl) h0
  obtain ⟨a1, rfl, rfl, rfl, w1⟩ := open_int Try.underlying3 (hval 1 3 v1 rfl rfl) h1
  obtain ⟨a2, len2, cap2, rfl⟩ := okWide_slice Try.underlying23 (hval 2 23 v2 rfl rfl)
  have k2 := h2
  have lt2 : ∀ x ∈ p2, x.block < W.heap.size := by obtain ⟨m, hm⟩ := k2; exact DataW.trod_lt m _ _ _ hm
  obtain ⟨l2, s2⟩ := open_bytes h2
  clear hA0 hval0
  refine (count_walk W a0 (bounds_u64 w0) a1 (bounds_i64 w1) (.slice a2 len2 cap2) l2 s2).mono fun e W' ⟨he, bel⟩ => ?_
  subst he
  exact ⟨_, rfl, _, _, _, [], _, [], hW', trodAll_mk1 (shut_bool Try.underlying4 _), (trodAll_cons_mk (shut_int Try.underlying22 w0) (trodAll_cons_mk (shut_int Try.underlying3 w1) (trodAll_cons_mk (Below.trod laidOut (by kernel_rfl) (of_decide_eq_true (by kernel_rfl)) k2 bel lt2) trodAll_mk0))), rfl, bel.frame _, fun h => by cases h⟩
theorem proved : Rows.OctetsCountSaid :=
  OpenClaim.holds_of_wide 3 Try.f3 rfl rfl rfl rfl rfl rfl rfl ⟨rfl, rfl, rfl, rfl, rfl⟩ rfl rfl rfl rfl rfl (by kernel_rfl) Try.func3 (by kernel_rfl)
    (of_decide_eq_true (by kernel_rfl)) (by unfold Func.isWrapper; first | (rw [if_pos (by decide +kernel)]; kernel_rfl) | (rw [if_neg (by decide +kernel)]; exact ⟨rfl, rfl⟩))
    (fun os started H enc _ => lifted os started H enc)
end octetsCount

theorem unhexL_hexL (l : List UInt8) : unhexL (hexL l) = some l := by
  induction l with
  | nil => rfl
  | cons x l ih =>
    have hx : x.toNat < 256 := x.toNat_lt
    have e : hexL (x :: l) = hexD (x.toNat / 16) :: hexD (x.toNat % 16) :: hexL l := rfl
    obtain ⟨a1, a2⟩ := (hexD_iff (x.toNat / 16) _ (by omega)).1 rfl
    obtain ⟨b1, b2⟩ := (hexD_iff (x.toNat % 16) _ (by omega)).1 rfl
    rw [e, unhexL, if_pos ⟨a1, b1⟩, ih, a2, b2, show 16 * (x.toNat / 16) + x.toNat % 16 = x.toNat by omega]
    simp
theorem hexL_unhexL : ∀ (n : Nat) (s l : List UInt8), s.length ≤ n → unhexL s = some l → hexL l = s
  | _, [], l, _, h => by rw [unhexL] at h; cases h; rfl
  | 0, a :: r, l, hn, h => by simp at hn
  | n + 1, [a], l, hn, h => by rw [unhexL] at h; cases h
  | n + 1, a :: b :: r, l, hn, h => by
    rw [unhexL] at h
    split at h
    · rename_i hd
      cases hr : unhexL r with
      | none => rw [hr] at h; cases h
      | some l' =>
        rw [hr] at h
        cases h
        have ih := hexL_unhexL n r l' (by simp at hn; omega) hr
        have ha := digV_lt a.toNat
        have hb := digV_lt b.toNat
        have e : ∀ (x : UInt8), hexL (x :: l') = hexD (x.toNat / 16) :: hexD (x.toNat % 16) :: hexL l' := fun _ => rfl
        rw [e, ih]
        have ex : (UInt8.ofNat (16 * digV a.toNat + digV b.toNat)).toNat = 16 * digV a.toNat + digV b.toNat := by rw [UInt8.toNat_ofNat']; omega
        rw [ex, show (16 * digV a.toNat + digV b.toNat) / 16 = digV a.toNat by omega, show (16 * digV a.toNat + digV b.toNat) % 16 = digV b.toNat by omega]
        rw [(hexD_iff _ a ha).2 ⟨hd.1, rfl⟩, (hexD_iff _ b hb).2 ⟨hd.2, rfl⟩]
    · cases h
theorem unhexL_len : ∀ (n : Nat) (s l : List UInt8), s.length ≤ n → unhexL s = some l → l.length ≤ s.length
  | _, [], l, _, h => by rw [unhexL] at h; cases h; simp
  | 0, a :: r, l, hn, h => by simp at hn
  | n + 1, [a], l, hn, h => by rw [unhexL] at h; cases h
  | n + 1, a :: b :: r, l, hn, h => by
    rw [unhexL] at h
    split at h
    · cases hr : unhexL r with
      | none => rw [hr] at h; cases h
      | some l' =>
        rw [hr] at h
        cases h
        have ih := unhexL_len n r l' (by simp at hn; omega) hr
        simp; omega
    · cases h
theorem unhexB_len (s : ByteArray) : (unhexB s).length ≤ s.size := by
  unfold unhexB
  cases h : unhexL s.data.toList with
  | none => simp
  | some l => have := unhexL_len _ _ l (Nat.le_refl _) h; simpa using this
theorem hex_back (s : ByteArray) (h : unhexOk s = true) : (⟨(hexL (unhexB s)).toArray⟩ : ByteArray) = s := by
  unfold unhexOk at h
  obtain ⟨l, hl⟩ := Option.isSome_iff_exists.1 h
  unfold unhexB
  rw [hl, Option.getD_some, hexL_unhexL _ _ l (Nat.le_refl _) hl]
theorem unhex_hex (l : List UInt8) : unhexOk ⟨(hexL l).toArray⟩ = true ∧ unhexB ⟨(hexL l).toArray⟩ = l := by
  unfold unhexOk unhexB
  show (unhexL (hexL l).toArray.toList).isSome = true ∧ (unhexL (hexL l).toArray.toList).getD [] = l
  rw [List.toList_toArray, unhexL_hexL]
  exact ⟨rfl, rfl⟩
theorem hex_size (l : List UInt8) : (⟨(hexL l).toArray⟩ : ByteArray).size = 2 * l.length := by
  show ((hexL l).toArray).size = _
  rw [List.size_toArray, hexL_length]

set_option maxHeartbeats 800000 in
theorem hexlaw_walk (w : World) (v : Value) (l : List UInt8) (hv : Slc w v l) (s : ByteArray) (hs : s.size ≤ maxLen) :
    Calls Try.prog 6 #[v, .string s] w fun e w' => e = .returned (.bool true) ∧ Below w.heap.size w w' := by
  unfold maxLen at hs
  have hlen := lenV hv
  by_cases hl : 60 < l.length
  · go_enter Try.func6, Try.ntmps6
    go_wp2_with (go_at_call 10; refine (known_any _).mono ?_; rintro e w1 ⟨rfl, b1⟩)
    go_ret
    exact ⟨rfl, b1⟩
  · by_cases hsl : 60 < s.size
    · have hl' : l.length ≤ 60 := by omega
      go_enter Try.func6, Try.ntmps6
      go_wp2_with (go_at_call 10; refine (known_any _).mono ?_; rintro e w1 ⟨rfl, b1⟩)
      go_ret
      exact ⟨rfl, b1⟩
    · have hl' : l.length ≤ 60 := by omega
      have hu1 := (unhex_hex l).1
      have Hu2 := Lib.hid (unhex_hex l).2
      have hub : (unhexB s).length ≤ 60 := by have := unhexB_len s; omega
      rcases hok : unhexOk s with _ | _
      all_goals
        (try (have hback := hex_back s hok))
        go_enter Try.func6, Try.ntmps6
        go_wp2_with (first
          | (go_at_call 22; refine (unhex_any _ _ (by first | (rw [hex_size]; omega) | omega)).mono ?_; first | (have tk := b2; rintro e w3 ⟨y, rfl, oy, b3⟩; clear tk) | (rintro e w2 ⟨x, rfl, ox, b2⟩))
          | (go_at_call_of 23 v; refine (hex_any _ l _ (by first | exact ((((hv.below b1).below b2).below b3).below b4).below b5 | exact hv) (by omega)).mono ?_; first | (have tk := b5; rintro e w6 ⟨rfl, b6⟩; clear tk) | (rintro e w1 ⟨rfl, b1⟩))
          | (go_at_call 24; refine (runhex_any _ _ (by omega)).mono ?_; rintro e w4 ⟨z, rfl, oz, b4⟩)
          | (go_at_call 10; refine (known_any _).mono ?_; rintro e w5 ⟨rfl, b5⟩)
          | (go_at_call 25; refine (rhex_any _ l _ ((((((hv.below b1).below b2).below b3).below b4).below b5).below b6) (by omega)).mono ?_; rintro e w7 ⟨rfl, b7⟩; have qv := ((((((hv.below b1).below b2).below b3).below b4).below b5).below b6).below b7; have qx := ((((ox.slc.below b3).below b4).below b5).below b6).below b7; rw [Hu2.out] at qx; have qy := (((oy.slc.below b4).below b5).below b6).below b7; have qz := ((oz.slc.below b5).below b6).below b7)
          | (go_at_call_of 18 x; refine (rsame_any _ _ _ _ _ qx qv).mono ?_; rintro e w' ⟨rfl, rfl⟩)
          | (go_at_call_of 18 y; refine (rsame_any _ _ _ _ _ qy qz).mono ?_; rintro e w' ⟨rfl, rfl⟩)
          | (go_at_call_of 23 y; refine (hex_any _ (unhexB s) _ qy (by omega)).mono ?_; rintro e w8 ⟨rfl, b8⟩))
        go_ret
        first
          | exact ⟨rfl, bstep (bstep (bstep (bstep (bstep (bstep (bstep b1 b2) b3) b4) b5) b6) b7) b8⟩
          | exact ⟨rfl, bstep (bstep (bstep (bstep (bstep (bstep b1 b2) b3) b4) b5) b6) b7⟩
namespace octetsHex
set_option maxRecDepth 100000 in
theorem lifted (os : Os) (started : os.Started) (H : Type) (enc : TypeId × Value → H) :
    ReturnsInHanded {} Try.checked os 6 .any (Rows.octetsHexSpec.pre6 enc Try.prog Try.f6 Rows.octetsHexRow.domain false) (Rows.octetsHexSpec.post enc Try.prog Try.f6 false true false false) := by
  refine returnsInHanded_of_change (C := Try.checked) own started (by kernel_rfl) Try.func6
    (ChangeSpec.witness6 (enc := enc) (C := Try.checked) false ⟨#[], #[.slice none 0 0, .string ByteArray.empty], []⟩ 8 (by kernel_rfl) (by kernel_rfl) (by kernel_rfl) (by kernel_rfl)) ?_
  intro W base args ds gs before hval0 hW hcnd _
  have hval : ∀ (j : Nat) t v, Try.f6.params[j]? = some t → args[j]? = some v → Value.okWide Try.prog W .any base t v := hval0
  have hW' := hW
  obtain ⟨p, q, hA0, hV, rfl, hfz, hnd⟩ := hW
  have hA : DataW.TrodAll enc Try.prog W 0 (fun _ => true) true Try.f6.params.toList args.toList ds p := hA0
  rw [Try.params6] at hA hval
  obtain ⟨v0, vs0, d0, ds0, p0, q0, hargs, rfl, rfl, h0, r0⟩ := trodAll_cons hA
  obtain ⟨v1, vs1, d1, ds1, p1, q1, rfl, rfl, rfl, h1, r1⟩ := trodAll_cons r0
  obtain ⟨rfl, rfl, rfl⟩ := trodAll_nil r1
  obtain rfl : args = #[v0, v1] := by cases args; simp_all
  obtain ⟨rfl, rfl⟩ := trodVars_none hV
  obtain ⟨a0, len0, cap0, rfl⟩ := okWide_slice Try.underlying23 (hval 0 23 v0 rfl rfl)
  have k0 := h0
  have lt0 : ∀ x ∈ p0, x.block < W.heap.size := by obtain ⟨m, hm⟩ := k0; exact DataW.trod_lt m _ _ _ hm
  obtain ⟨l0, s0⟩ := open_bytes h0
  obtain ⟨a1, rfl, rfl, rfl, w1⟩ := open_string Try.underlying9 (hval 1 9 v1 rfl rfl) h1
  clear hA0 hval0
  refine (hexlaw_walk W (.slice a0 len0 cap0) l0 s0 a1 w1).mono fun e W' ⟨he, bel⟩ => ?_
  subst he
  exact ⟨_, rfl, _, _, _, [], _, [], hW', trodAll_mk1 (shut_bool Try.underlying4 _), (trodAll_cons_mk (Below.trod laidOut (by kernel_rfl) (of_decide_eq_true (by kernel_rfl)) k0 bel lt0) (trodAll_cons_mk (shut_string Try.underlying9 w1) trodAll_mk0)), rfl, bel.frame _, fun h => by cases h⟩
theorem proved : Rows.OctetsHexSaid :=
  OpenClaim.holds_of_wide 6 Try.f6 rfl rfl rfl rfl rfl rfl rfl ⟨rfl, rfl, rfl, rfl, rfl⟩ rfl rfl rfl rfl rfl (by kernel_rfl) Try.func6 (by kernel_rfl)
    (of_decide_eq_true (by kernel_rfl)) (by unfold Func.isWrapper; first | (rw [if_pos (by decide +kernel)]; kernel_rfl) | (rw [if_neg (by decide +kernel)]; exact ⟨rfl, rfl⟩))
    (fun os started H enc _ => lifted os started H enc)
end octetsHex

end Go.Proofs.Ytbfmabjpjblpaaa
