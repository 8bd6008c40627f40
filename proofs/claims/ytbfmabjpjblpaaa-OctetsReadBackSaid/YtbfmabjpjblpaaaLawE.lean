/- The laws of layer 1 on fields: every call returns true. -/
import Derived.Test.YtbfmabjpjblpaaaLawD
import Derived.Test.YtbfmabjpjblpaaaFld5
set_option linter.unusedVariables false
set_option linter.unusedSimpArgs false
namespace Go.Proofs.Ytbfmabjpjblpaaa
open Go.ChangeShapes Go.WideShapes Go.ChangeAt Go.RowKit
open Go.ChangeMaps (open_string shut_string)

def LenOk (n : Nat) (fs : Fs) (j : Nat) : Prop := ∀ f ∈ fs.take j, f.2.length ≤ n
theorem samef_self (fs : Fs) : sameF fs fs = true := decide_eq_true rfl
theorem LenOk.zero (n : Nat) (fs : Fs) : LenOk n fs 0 := fun f hf => by simp at hf
theorem LenOk.succ {n : Nat} {fs : Fs} {j : Nat} (h : LenOk n fs j) (hj : j < fs.length) (hl : fs[j].2.length ≤ n) : LenOk n fs (j + 1) := by
  intro f hf
  rw [List.take_succ_eq_append_getElem hj, List.mem_append, List.mem_singleton] at hf
  rcases hf with hf | rfl
  · exact h f hf
  · exact hl
theorem LenOk.bytes {n : Nat} {fs : Fs} (h : LenOk n fs fs.length) : (bytesF fs).length ≤ fs.length * (n + 4) := by
  unfold LenOk at h
  rw [List.take_length] at h
  induction fs with
  | nil => simp [bytesF]
  | cons f r ih =>
    have h1 := h f (by simp)
    have h2 := ih fun g hg => h g (by simp [hg])
    simp only [bytesF, List.flatMap_cons, List.length_append, fldL_length, List.length_cons] at *
    rw [Nat.add_mul]
    omega
theorem Drawn.step {w a b : World} (h : Below w.heap.size w a) (k : Drawn a b) : Below w.heap.size w b := k.below h

set_option maxRecDepth 100000 in
set_option maxHeartbeats 1600000 in
theorem fieldslaw_walk (w : World) (v1 : Value) (fs : Fs) (q1 : SlcF w v1 fs) (v2 : Value) (b : List UInt8) (q2 : Slc w v2 b) :
    Calls Try.prog 7 #[v1, v2] w fun e w' => e = .returned (.bool true) ∧ Below w.heap.size w w' := by
  have n1 := lenF q1
  have n2 := lenV q2
  by_cases g1 : 10 < fs.length
  · go_enter Try.func7, Try.ntmps7
    go_wp2_with (go_at_call 10; refine (known_any _).mono ?_; rintro e w6 ⟨rfl, b6⟩)
    go_ret
    exact ⟨rfl, b6⟩
  have g1' : fs.length ≤ 10 := by omega
  by_cases g2 : 300 < b.length
  · clear g1
    go_enter Try.func7, Try.ntmps7
    go_wp2_with (go_at_call 10; refine (known_any _).mono ?_; rintro e w6 ⟨rfl, b6⟩)
    go_ret
    exact ⟨rfl, b6⟩
  clear g1
  have g2' : b.length ≤ 300 := by omega
  clear g2
  go_enter Try.func7, Try.ntmps7
  go_wp2
  go_loop [5] (fun k => ∃ j : Nat, j ≤ fs.length ∧ k = .int .i64 j ∧ LenOk 65600 fs j) (fun k => fs.length - (intOf k).toNat)
  case atStart => exact ⟨0, Nat.zero_le _, rfl, LenOk.zero _ _⟩
  case round =>
    obtain ⟨j, hj, rfl, hok⟩ := hrel
    by_cases hlt : j < fs.length
    · obtain ⟨b1, p1, u1, hb1, e1, c1, d1, s1⟩ := idxF q1 j hlt
      have hll := lenV s1
      have hle := s1.le
      unfold maxLen at hle
      have Hs := Lib.hid (fun h => hok.succ hlt h)
      generalize fs[j] = f at *
      obtain ⟨t, l⟩ := f
      obtain ⟨A1, k1, rfl⟩ := s1.shape
      by_cases h1 : 65600 < l.length
      · have h2 : 100 < l.length := by omega
        have h3 : ¬ l.length ≤ 65535 := by omega
        go_wp2_with (go_at_call 10; refine (known_any _).mono ?_; rintro e w6 ⟨rfl, b6⟩)
        go_ret
        exact ⟨rfl, b6⟩
      · by_cases h2 : 100 < l.length
        · by_cases h3 : l.length ≤ 65535
          · go_wp2_with (go_at_call 10; refine (known_any _).mono ?_; rintro e w6 ⟨rfl, b6⟩)
            go_ret
            exact ⟨rfl, b6⟩
          · have Hs2 := Lib.hid (Hs.out (by simp only; omega))
            go_wp2
            go_round
            case rel => exact ⟨j + 1, by omega, by go_num, Hs2.out⟩
            case measure => simp [intOf] <;> omega
        · have Hs2 := Lib.hid (Hs.out (by simp only; omega))
          go_wp2
          go_round
          case rel => exact ⟨j + 1, by omega, by go_num, Hs2.out⟩
          case measure => simp [intOf] <;> omega
    · obtain rfl : j = fs.length := by omega
      have hby := hok.bytes
      have hby2 : (bytesF fs).length ≤ 1099511627776 := by
        have : fs.length * (65600 + 4) ≤ 10 * (65600 + 4) := Nat.mul_le_mul_right _ g1'
        omega
      clear hby hok
      go_wp2_with (first
        | (go_at_call 26; refine (write_any _ fs _ q1 hby2).mono ?_; rintro e w1 ⟨x1, rfl, o1, b1⟩)
        | (go_at_call 27; refine (rwrite_any _ fs _ (q1.below b1) hby2).mono ?_; rintro e w2 ⟨x2, rfl, o2, b2⟩)
        | (go_at_call 28; refine (fields_any _ b _ ((q2.below b1).below b2) (by omega)).mono ?_; rintro e w3 ⟨x3, rfl, o3, b3⟩)
        | (go_at_call 29; refine (rfields_any _ b _ (((q2.below b1).below b2).below b3) (by omega)).mono ?_; rintro e w4 ⟨x4, rfl, o4, b4⟩)
        | (go_at_call 10; refine (known_any _).mono ?_; rintro e w5 ⟨rfl, b5⟩; have y1 := (((o1.slc.below b2).below b3).below b4).below b5; have y2 := ((o2.slc.below b3).below b4).below b5; have y3 := (o3.slcF.below b4).below b5; have y4 := o4.slcF.below b5)
        | (go_at_call 18; refine (rsame_any _ _ _ _ _ y1 y2).mono ?_; rintro e w' ⟨rfl, rfl⟩)
        | (go_at_call 30; refine (samef_any _ _ _ _ _ y3 y4).mono ?_; rintro e w6 ⟨rfl, b6⟩))
      go_ret
      exact ⟨by show Ending.returned (.bool (sameF (flist b) (flist b))) = _; rw [samef_self], Drawn.step (bstep (bstep (bstep (bstep b1 b2) b3) b4) b5) b6⟩
namespace octetsFields
set_option maxRecDepth 100000 in
theorem lifted (os : Os) (started : os.Started) (H : Type) (enc : TypeId × Value → H) :
    ReturnsInHanded {} Try.checked os 7 .any (Rows.octetsFieldsSpec.pre6 enc Try.prog Try.f7 Rows.octetsFieldsRow.domain false) (Rows.octetsFieldsSpec.post enc Try.prog Try.f7 false true false false) := by
  refine returnsInHanded_of_change (C := Try.checked) own started (by kernel_rfl) Try.func7
    (ChangeSpec.witness6 (enc := enc) (C := Try.checked) false ⟨#[], #[.slice none 0 0, .slice none 0 0], []⟩ 8 (by kernel_rfl) (by kernel_rfl) (by kernel_rfl) (by kernel_rfl)) ?_
  intro W base args ds gs before hval0 hW hcnd _
  have hval : ∀ (j : Nat) t v, Try.f7.params[j]? = some t → args[j]? = some v → Value.okWide Try.prog W .any base t v := hval0
  have hW' := hW
  obtain ⟨p, q, hA0, hV, rfl, hfz, hnd⟩ := hW
  have hA : DataW.TrodAll enc Try.prog W 0 (fun _ => true) true Try.f7.params.toList args.toList ds p := hA0
  rw [Try.params7] at hA hval
  obtain ⟨v0, vs0, d0, ds0, p0, q0, hargs, rfl, rfl, h0, r0⟩ := trodAll_cons hA
  obtain ⟨v1, vs1, d1, ds1, p1, q1, rfl, rfl, rfl, h1, r1⟩ := trodAll_cons r0
  obtain ⟨rfl, rfl, rfl⟩ := trodAll_nil r1
  obtain rfl : args = #[v0, v1] := by cases args; simp_all
  obtain ⟨rfl, rfl⟩ := trodVars_none hV
  obtain ⟨a0, len0, cap0, rfl⟩ := okWide_slice Try.underlying39 (hval 0 39 v0 rfl rfl)
  have k0 := h0
  have lt0 : ∀ x ∈ p0, x.block < W.heap.size := by obtain ⟨m, hm⟩ := k0; exact DataW.trod_lt m _ _ _ hm
  obtain ⟨l0, s0⟩ := open_fields h0
  obtain ⟨a1, len1, cap1, rfl⟩ := okWide_slice Try.underlying23 (hval 1 23 v1 rfl rfl)
  have k1 := h1
  have lt1 : ∀ x ∈ p1, x.block < W.heap.size := by obtain ⟨m, hm⟩ := k1; exact DataW.trod_lt m _ _ _ hm
  obtain ⟨l1, s1⟩ := open_bytes h1
  clear hA0 hval0
  refine (fieldslaw_walk W (.slice a0 len0 cap0) l0 s0 (.slice a1 len1 cap1) l1 s1).mono fun e W' ⟨he, bel⟩ => ?_
  subst he
  exact ⟨_, rfl, _, _, _, [], _, [], hW', trodAll_mk1 (shut_bool Try.underlying4 _), (trodAll_cons_mk (Below.trod laidOut (by kernel_rfl) (of_decide_eq_true (by kernel_rfl)) k0 bel lt0) (trodAll_cons_mk (Below.trod laidOut (by kernel_rfl) (of_decide_eq_true (by kernel_rfl)) k1 bel lt1) trodAll_mk0)), rfl, bel.frame _, fun h => by cases h⟩
theorem proved : Rows.OctetsFieldsSaid :=
  OpenClaim.holds_of_wide 7 Try.f7 rfl rfl rfl rfl rfl rfl rfl ⟨rfl, rfl, rfl, rfl, rfl⟩ rfl rfl rfl rfl rfl (by kernel_rfl) Try.func7 (by kernel_rfl)
    (of_decide_eq_true (by kernel_rfl)) (by unfold Func.isWrapper; first | (rw [if_pos (by decide +kernel)]; kernel_rfl) | (rw [if_neg (by decide +kernel)]; exact ⟨rfl, rfl⟩))
    (fun os started H enc _ => lifted os started H enc)
end octetsFields

theorem fldL_parts (t : Nat) (l rest : List UInt8) (ht : t < 65536) (hl : l.length < 65536) :
    fsz (fldL ((t : Int), l) ++ rest) = l.length ∧ ftp (fldL ((t : Int), l) ++ rest) = t ∧ fdt (fldL ((t : Int), l) ++ rest) = l ∧ (fldL ((t : Int), l) ++ rest).drop (4 + l.length) = rest := by
  have e : fldL ((t : Int), l) ++ rest = putL t 2 ++ (putL l.length 2 ++ (l ++ rest)) := by simp [fldL]
  have h1 : (putL t 2).length = 2 := putL_length _ _
  have h2 : (putL l.length 2).length = 2 := putL_length _ _
  have hs : fsz (fldL ((t : Int), l) ++ rest) = l.length := by
    unfold fsz
    rw [e, List.drop_append_of_le_length (by omega), List.drop_of_length_le (by omega), List.nil_append, List.take_append_of_le_length (by omega), List.take_of_length_le (by omega), getN_putL _ _ (by decide)]
    exact Nat.mod_eq_of_lt (by omega)
  have h4 : (fldL ((t : Int), l) ++ rest).drop 4 = l ++ rest := by
    rw [e, ← List.append_assoc, List.drop_append_of_le_length (by simp; omega), List.drop_of_length_le (by simp; omega), List.nil_append]
  refine ⟨hs, ?_, ?_, ?_⟩
  · unfold ftp
    rw [e, List.take_append_of_le_length (by omega), List.take_of_length_le (by omega), getN_putL _ _ (by decide)]
    exact Nat.mod_eq_of_lt (by omega)
  · unfold fdt
    rw [hs, h4, List.take_left]
  · rw [← List.drop_drop, h4, List.drop_left]
theorem parse_bytesF (fs : Fs) (h : errF fs = 0) : parse (bytesF fs) = some fs := by
  induction fs with
  | nil => exact parse_nil
  | cons f r ih =>
    rw [errF] at h
    have hc : chk f = 0 := by
      by_cases hc : chk f = 0
      · exact hc
      · rw [if_neg hc] at h; exact absurd h hc
    rw [if_pos hc] at h
    obtain ⟨h0, h1, h2⟩ := chk_zero f hc
    obtain ⟨t, l⟩ := f
    obtain ⟨t, rfl⟩ := Int.eq_ofNat_of_zero_le h0
    simp only at h1 h2
    have e : bytesF (((t : Int), l) :: r) = fldL ((t : Int), l) ++ bytesF r := rfl
    obtain ⟨p1, p2, p3, p4⟩ := fldL_parts t l (bytesF r) (by omega) (by omega)
    have hlen := fldL_length ((t : Int), l)
    simp only at hlen
    rw [e, parse_step _ (by rw [List.length_append]; omega) (by rw [p1, List.length_append]; omega), p1, p2, p3, p4, ih h]
    rfl
theorem parse_back : ∀ (n : Nat) (b : List UInt8) (fs : Fs), b.length ≤ n → parse b = some fs → bytesF fs = b ∧ errF fs = 0
  | n, [], fs, _, h => by
    rw [parse_nil] at h
    cases h
    exact ⟨rfl, rfl⟩
  | 0, a :: r, fs, hn, h => by simp at hn
  | n + 1, a :: r, fs, hn, h => by
    generalize hb : a :: r = b at *
    have hpos : 0 < b.length := by rw [← hb]; simp
    by_cases h4 : 4 ≤ b.length
    · by_cases h5 : 4 + fsz b ≤ b.length
      · rw [parse_step b h4 h5] at h
        cases hp : parse (b.drop (4 + fsz b)) with
        | none => rw [hp] at h; cases h
        | some fs' =>
          rw [hp] at h
          cases h
          obtain ⟨i1, i2⟩ := parse_back n (b.drop (4 + fsz b)) fs' (by rw [List.length_drop]; omega) hp
          have hz := fsz_lt b
          have hz2 := ftp_lt b
          have hd : (fdt b).length = fsz b := by unfold fdt; rw [List.length_take, List.length_drop]; omega
          have hc : chk ((ftp b : Int), fdt b) = 0 := chk_ok _ _ (by omega) (by omega) (by omega)
          refine ⟨?_, by rw [errF, if_pos hc]; exact i2⟩
          show fldL ((ftp b : Int), fdt b) ++ bytesF fs' = b
          rw [i1]
          have e1 : putL (ftp b) 2 = b.take 2 := by
            unfold ftp
            rw [getN_mod, Nat.mod_eq_of_lt (by have := valN_lt (b.take 2); rw [List.length_take, Nat.min_eq_left (by omega)] at this; omega)]
            exact putL_valN 2 _ (by rw [List.length_take]; omega)
          have e2 : putL (fsz b) 2 = (b.drop 2).take 2 := by
            unfold fsz
            rw [getN_mod, Nat.mod_eq_of_lt (by have := valN_lt ((b.drop 2).take 2); rw [List.length_take, List.length_drop, Nat.min_eq_left (by omega)] at this; omega)]
            exact putL_valN 2 _ (by rw [List.length_take, List.length_drop]; omega)
          unfold fldL
          rw [hd]
          simp only [Int.toNat_natCast]
          rw [e1, e2]
          unfold fdt
          rw [show b.drop (4 + fsz b) = (b.drop 4).drop (fsz b) by rw [List.drop_drop], List.append_assoc, List.append_assoc, List.take_append_drop, show b.drop 4 = (b.drop 2).drop 2 by rw [List.drop_drop], List.take_append_drop, List.take_append_drop]
      · rw [parse_short b hpos (.inr (by omega))] at h; cases h
    · rw [parse_short b hpos (.inl (by omega))] at h; cases h

/-- All fields so far are within the law's bounds. -/
def FldOk (fs : Fs) (j : Nat) : Prop := ∀ f ∈ fs.take j, 0 ≤ f.1 ∧ f.1 ≤ 65535 ∧ f.2.length ≤ 100
theorem FldOk.zero (fs : Fs) : FldOk fs 0 := fun f hf => by simp at hf
theorem FldOk.succ {fs : Fs} {j : Nat} (h : FldOk fs j) (hj : j < fs.length) (h0 : 0 ≤ fs[j].1) (h1 : fs[j].1 ≤ 65535) (hl : fs[j].2.length ≤ 100) : FldOk fs (j + 1) := by
  intro f hf
  rw [List.take_succ_eq_append_getElem hj, List.mem_append, List.mem_singleton] at hf
  rcases hf with hf | rfl
  · exact h f hf
  · exact ⟨h0, h1, hl⟩
theorem FldOk.facts {fs : Fs} (h : FldOk fs fs.length) (hn : fs.length ≤ 10) : (bytesF fs).length ≤ 1040 ∧ errF fs = 0 := by
  unfold FldOk at h
  rw [List.take_length] at h
  have h1 : LenOk 100 fs fs.length := by intro f hf; rw [List.take_length] at hf; exact (h f hf).2.2
  have h2 := h1.bytes
  refine ⟨by have : fs.length * (100 + 4) ≤ 10 * (100 + 4) := Nat.mul_le_mul_right _ hn; omega, ?_⟩
  clear h1 h2 hn
  induction fs with
  | nil => rfl
  | cons f r ih =>
    obtain ⟨a, b, c⟩ := h f (by simp)
    obtain ⟨t, l⟩ := f
    rw [errF, if_pos (chk_ok t l a b (by simp only at c; omega))]
    exact ih fun g hg => h g (by simp [hg])
theorem rb_facts (fs : Fs) (h1 : (bytesF fs).length ≤ 1040) (h2 : errF fs = 0) : wcode fs = 0 ∧ wbytes fs = bytesF fs ∧ fcode (bytesF fs) = 0 ∧ flist (bytesF fs) = fs := by
  have hn : ¬ 65535 < (bytesF fs).length := by omega
  have hw : wcode fs = 0 := by unfold wcode; rw [if_pos h2, if_neg hn]
  have hp := parse_bytesF fs h2
  refine ⟨hw, by unfold wbytes; rw [hw, if_pos rfl], ?_, ?_⟩
  · unfold fcode; rw [hp, if_neg hn]; rfl
  · unfold flist; rw [hp, if_neg hn]; rfl
theorem rb_back (b : List UInt8) (hb : b.length ≤ 300) (h : fcode b = 0) : wcode (flist b) = 0 ∧ wbytes (flist b) = b ∧ (bytesF (flist b)).length ≤ 300 := by
  have hn : ¬ 65535 < b.length := by omega
  unfold fcode at h
  rw [if_neg hn] at h
  cases hp : parse b with
  | none => rw [hp] at h; simp at h
  | some fs =>
    obtain ⟨i1, i2⟩ := parse_back _ b fs (Nat.le_refl _) hp
    have hf : flist b = fs := by unfold flist; rw [hp, if_neg hn]; rfl
    have hw : wcode fs = 0 := by unfold wcode; rw [if_pos i2, if_neg (by rw [i1]; exact hn)]
    rw [hf]
    exact ⟨hw, by unfold wbytes; rw [hw, if_pos rfl]; exact i1, by rw [i1]; exact hb⟩
theorem fcode_cases (b : List UInt8) (hb : b.length ≤ 300) : fcode b = 0 ∨ fcode b = 1 := by
  unfold fcode
  rw [if_neg (by omega)]
  split <;> simp
set_option maxRecDepth 100000 in
set_option maxHeartbeats 1600000 in
theorem rblaw_walk (w : World) (v1 : Value) (fs : Fs) (q1 : SlcF w v1 fs) (v2 : Value) (b : List UInt8) (q2 : Slc w v2 b) :
    Calls Try.prog 8 #[v1, v2] w fun e w' => e = .returned (.bool true) ∧ Below w.heap.size w w' := by
  have n1 := lenF q1
  have n2 := lenV q2
  by_cases g1 : 10 < fs.length
  · go_enter Try.func8, Try.ntmps8
    go_wp2_with (go_at_call 10; refine (known_any _).mono ?_; rintro e w6 ⟨rfl, b6⟩)
    go_ret
    exact ⟨rfl, b6⟩
  have g1' : fs.length ≤ 10 := by omega
  by_cases g2 : 300 < b.length
  · clear g1
    go_enter Try.func8, Try.ntmps8
    go_wp2_with (go_at_call 10; refine (known_any _).mono ?_; rintro e w6 ⟨rfl, b6⟩)
    go_ret
    exact ⟨rfl, b6⟩
  clear g1
  have g2' : b.length ≤ 300 := by omega
  clear g2
  go_enter Try.func8, Try.ntmps8
  go_wp2
  go_loop [5] (fun k => ∃ j : Nat, j ≤ fs.length ∧ k = .int .i64 j ∧ FldOk fs j) (fun k => fs.length - (intOf k).toNat)
  case atStart => exact ⟨0, Nat.zero_le _, rfl, FldOk.zero _⟩
  case round =>
    obtain ⟨j, hj, rfl, hok⟩ := hrel
    by_cases hlt : j < fs.length
    · obtain ⟨b1, p1, u1, hb1, e1, c1, d1, s1⟩ := idxF q1 j hlt
      have hll := lenV s1
      have hle := s1.le
      unfold maxLen at hle
      have Hs := Lib.hid (fun h0 h1 h2 => hok.succ hlt h0 h1 h2)
      generalize fs[j] = f at *
      obtain ⟨t, l⟩ := f
      obtain ⟨A1, k1, rfl⟩ := s1.shape
      by_cases h1 : 100 < l.length
      · go_wp2_with (go_at_call 10; refine (known_any _).mono ?_; rintro e w6 ⟨rfl, b6⟩)
        go_ret
        exact ⟨rfl, b6⟩
      · have h1' : l.length ≤ 100 := by omega
        by_cases h2 : t < 0
        · go_wp2_with (go_at_call 10; refine (known_any _).mono ?_; rintro e w6 ⟨rfl, b6⟩)
          go_ret
          exact ⟨rfl, b6⟩
        · have h2' : 0 ≤ t := by omega
          by_cases h3 : 65535 < t
          · go_wp2_with (go_at_call 10; refine (known_any _).mono ?_; rintro e w6 ⟨rfl, b6⟩)
            go_ret
            exact ⟨rfl, b6⟩
          · have Hs2 := Lib.hid (Hs.out h2' (by simp only; omega) h1')
            go_wp2
            go_round
            case rel => exact ⟨j + 1, by omega, by go_num, Hs2.out⟩
            case measure => simp [intOf] <;> omega
    · obtain rfl : j = fs.length := by omega
      obtain ⟨hb1, hb2⟩ := hok.facts g1'
      obtain ⟨r1, r2, r3, r4⟩ := rb_facts fs hb1 hb2
      have R2 := Lib.hid r2
      have R4 := Lib.hid r4
      clear hok hb2 r2 r4
      rcases fcode_cases b g2' with hc | hc
      · obtain ⟨z1, z2, z3⟩ := rb_back b g2' hc
        have Z2 := Lib.hid z2
        clear z2
        go_wp2_with (first
          | (go_at_call_of 26 v1; refine (write_any _ fs _ q1 (by omega)).mono ?_; rintro e w1 ⟨x1, rfl, o1, b1⟩; rw [R2.out] at o1)
          | (go_at_call_of 28 v2; refine (fields_any _ b _ ((q2.below b1).below b2) (by omega)).mono ?_; rintro e w3 ⟨x3, rfl, o3, b3⟩)
          | (go_at_call 28; refine (fields_any _ (bytesF fs) _ o1.slc (by omega)).mono ?_; rintro e w2 ⟨x2, rfl, o2, b2⟩; rw [R4.out] at o2)
          | (go_at_call 30; refine (samef_any _ _ _ _ _ (((q1.below b1).below b2).below b3) (o2.slcF.below b3)).mono ?_; rintro e w4 ⟨rfl, b4⟩; have b4' := b4.below (Below.refl w3.heap.size w3); rw [samef_self])
          | (go_at_call 26; refine (write_any _ (flist b) _ (o3.slcF.below b4') (by omega)).mono ?_; rintro e w5 ⟨x5, rfl, o5, b5⟩; rw [Z2.out] at o5)
          | (go_at_call 10; refine (known_any _).mono ?_; rintro e w6 ⟨rfl, b6⟩)
          | (go_at_call 18; refine (rsame_any _ _ _ _ _ (o5.slc.below b6) ((((((q2.below b1).below b2).below b3).below b4').below b5).below b6)).mono ?_; rintro e w' ⟨rfl, rfl⟩))
        go_ret
        exact ⟨rfl, bstep (bstep (bstep (bstep (bstep b1 b2) b3) b4') b5) b6⟩
      · go_wp2_with (first
          | (go_at_call_of 26 v1; refine (write_any _ fs _ q1 (by omega)).mono ?_; rintro e w1 ⟨x1, rfl, o1, b1⟩; rw [R2.out] at o1)
          | (go_at_call_of 28 v2; refine (fields_any _ b _ ((q2.below b1).below b2) (by omega)).mono ?_; rintro e w3 ⟨x3, rfl, o3, b3⟩)
          | (go_at_call 28; refine (fields_any _ (bytesF fs) _ o1.slc (by omega)).mono ?_; rintro e w2 ⟨x2, rfl, o2, b2⟩; rw [R4.out] at o2)
          | (go_at_call 30; refine (samef_any _ _ _ _ _ (((q1.below b1).below b2).below b3) (o2.slcF.below b3)).mono ?_; rintro e w4 ⟨rfl, b4⟩; have b4' := b4.below (Below.refl w3.heap.size w3); rw [samef_self])
          | (go_at_call 10; refine (known_any _).mono ?_; rintro e w6 ⟨rfl, b6⟩))
        go_ret
        exact ⟨rfl, bstep (bstep (bstep (bstep b1 b2) b3) b4') b6⟩
namespace octetsReadBack
set_option maxRecDepth 100000 in
theorem lifted (os : Os) (started : os.Started) (H : Type) (enc : TypeId × Value → H) :
    ReturnsInHanded {} Try.checked os 8 .any (Rows.octetsReadBackSpec.pre6 enc Try.prog Try.f8 Rows.octetsReadBackRow.domain false) (Rows.octetsReadBackSpec.post enc Try.prog Try.f8 false true false false) := by
  refine returnsInHanded_of_change (C := Try.checked) own started (by kernel_rfl) Try.func8
    (ChangeSpec.witness6 (enc := enc) (C := Try.checked) false ⟨#[], #[.slice none 0 0, .slice none 0 0], []⟩ 8 (by kernel_rfl) (by kernel_rfl) (by kernel_rfl) (by kernel_rfl)) ?_
  intro W base args ds gs before hval0 hW hcnd _
  have hval : ∀ (j : Nat) t v, Try.f8.params[j]? = some t → args[j]? = some v → Value.okWide Try.prog W .any base t v := hval0
  have hW' := hW
  obtain ⟨p, q, hA0, hV, rfl, hfz, hnd⟩ := hW
  have hA : DataW.TrodAll enc Try.prog W 0 (fun _ => true) true Try.f8.params.toList args.toList ds p := hA0
  rw [Try.params8] at hA hval
  obtain ⟨v0, vs0, d0, ds0, p0, q0, hargs, rfl, rfl, h0, r0⟩ := trodAll_cons hA
  obtain ⟨v1, vs1, d1, ds1, p1, q1, rfl, rfl, rfl, h1, r1⟩ := trodAll_cons r0
  obtain ⟨rfl, rfl, rfl⟩ := trodAll_nil r1
  obtain rfl : args = #[v0, v1] := by cases args; simp_all
  obtain ⟨rfl, rfl⟩ := trodVars_none hV
  obtain ⟨a0, len0, cap0, rfl⟩ := okWide_slice Try.underlying39 (hval 0 39 v0 rfl rfl)
  have k0 := h0
  have lt0 : ∀ x ∈ p0, x.block < W.heap.size := by obtain ⟨m, hm⟩ := k0; exact DataW.trod_lt m _ _ _ hm
  obtain ⟨l0, s0⟩ := open_fields h0
  obtain ⟨a1, len1, cap1, rfl⟩ := okWide_slice Try.underlying23 (hval 1 23 v1 rfl rfl)
  have k1 := h1
  have lt1 : ∀ x ∈ p1, x.block < W.heap.size := by obtain ⟨m, hm⟩ := k1; exact DataW.trod_lt m _ _ _ hm
  obtain ⟨l1, s1⟩ := open_bytes h1
  clear hA0 hval0
  refine (rblaw_walk W (.slice a0 len0 cap0) l0 s0 (.slice a1 len1 cap1) l1 s1).mono fun e W' ⟨he, bel⟩ => ?_
  subst he
  exact ⟨_, rfl, _, _, _, [], _, [], hW', trodAll_mk1 (shut_bool Try.underlying4 _), (trodAll_cons_mk (Below.trod laidOut (by kernel_rfl) (of_decide_eq_true (by kernel_rfl)) k0 bel lt0) (trodAll_cons_mk (Below.trod laidOut (by kernel_rfl) (of_decide_eq_true (by kernel_rfl)) k1 bel lt1) trodAll_mk0)), rfl, bel.frame _, fun h => by cases h⟩
theorem proved : Rows.OctetsReadBackSaid :=
  OpenClaim.holds_of_wide 8 Try.f8 rfl rfl rfl rfl rfl rfl rfl ⟨rfl, rfl, rfl, rfl, rfl⟩ rfl rfl rfl rfl rfl (by kernel_rfl) Try.func8 (by kernel_rfl)
    (of_decide_eq_true (by kernel_rfl)) (by unfold Func.isWrapper; first | (rw [if_pos (by decide +kernel)]; kernel_rfl) | (rw [if_neg (by decide +kernel)]; exact ⟨rfl, rfl⟩))
    (fun os started H enc _ => lifted os started H enc)
end octetsReadBack

end Go.Proofs.Ytbfmabjpjblpaaa
