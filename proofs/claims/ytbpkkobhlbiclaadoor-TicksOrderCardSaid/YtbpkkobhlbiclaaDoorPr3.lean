/- Layer 10 on data: texts: Format and Parse of the program. Own work. -/
import Derived.Test.YtbpkkobhlbiclaaDoorPr2
set_option linter.unusedVariables false
set_option linter.unusedSimpArgs false
namespace Go.Proofs.YtbpkkobhlbiclaaDoor
open Go.RowKit

/-! ### Digits -/
theorem dec_big {v n m : Nat} (h : 0 < v) (hn : n ≤ 1) (hm : m ≤ 1) : decL v n = decL v m := by
  rw [dec_s (v := v) (n := n) (by omega), dec_s (v := v) (n := m) (by omega), show n - 1 = 0 by omega, show m - 1 = 0 by omega]
theorem dd_dec (v : Nat) : Lib.decDigits v = decL v 1 := by
  induction v using Nat.strongRecOn with
  | _ v ih =>
    rw [Lib.decDigits, dec_s (by omega)]
    by_cases h : v < 10
    · rw [dif_pos h, show v / 10 = 0 by omega, dec_0, Nat.mod_eq_of_lt h]; rfl
    · rw [dif_neg h, ih (v / 10) (by omega), dec_big (n := 1) (m := 0) (by omega) (by omega) (by omega)]
theorem itoa_dec (n : Int) : Lib.itoa n = if n < 0 then 45 :: decL (-n).toNat 1 else decL n.toNat 1 := by
  unfold Lib.itoa
  split
  · rw [dd_dec, show n.natAbs = (-n).toNat by omega]
  · rw [dd_dec]
theorem rep_snoc (k : Nat) : Lib.repeatL [48] (k + 1) = Lib.repeatL [48] k ++ [48] := by
  induction k with
  | zero => rfl
  | succ k ih => show [48] ++ Lib.repeatL [48] (k + 1) = ([48] ++ Lib.repeatL [48] k) ++ [48]; rw [ih, List.append_assoc]
theorem rep_len (k : Nat) : (Lib.repeatL [48] k).length = k := by
  induction k with
  | zero => rfl
  | succ k ih => rw [Lib.repeatL, List.length_append, ih, List.length_singleton]; omega
theorem dec_zero : ∀ n : Nat, decL 0 n = Lib.repeatL [48] n
  | 0 => by rw [dec_0]; rfl
  | n + 1 => by rw [dec_s (by omega), Nat.zero_div, Nat.add_sub_cancel, dec_zero n, rep_snoc]; rfl
theorem dec_pad (v n : Nat) (hn : (decL v 1).length ≤ n) : Lib.repeatL [48] (n - (decL v 1).length) ++ decL v 1 = decL v n := by
  induction v using Nat.strongRecOn generalizing n with
  | _ v ih =>
    have h1 := dec_ge v 1
    rw [dec_s (v := v) (n := n) (by omega)]
    by_cases h : v < 10
    · have e : decL v 1 = [UInt8.ofNat (48 + v % 10)] := by rw [dec_s (by omega), show v / 10 = 0 by omega, dec_0]; rfl
      rw [e, show v / 10 = 0 by omega, dec_zero]; rfl
    · have e : decL v 1 = decL (v / 10) 1 ++ [UInt8.ofNat (48 + v % 10)] := by
        rw [dec_s (by omega), dec_big (n := 1 - 1) (m := 1) (by omega) (by omega) (by omega)]
      have hl : (decL v 1).length = (decL (v / 10) 1).length + 1 := by rw [e, List.length_append, List.length_singleton]
      have := ih (v / 10) (by omega) (n - 1) (by omega)
      rw [e, ← List.append_assoc, ← this]
      rw [List.length_append, List.length_singleton]
      congr 3; omega
theorem part_len (t : Int) : 1 ≤ (decL (t % 1048576).toNat 1).length ∧ (decL (t % 1048576).toNat 1).length ≤ 7 :=
  ⟨dec_ge _ _, dec_le 7 _ _ (by omega) (by omega)⟩
theorem sec_len (s : Nat) (h : s ≤ 18446744073709551616) : (decL s 1).length ≤ 20 := dec_le 20 _ _ (by omega) (by omega)
theorem fmt_eq (t : Int) : fmtL t = Lib.itoa (t / 1048576) ++ [46] ++ Lib.repeatL [48] (7 - (decL (t % 1048576).toNat 1).length) ++ decL (t % 1048576).toNat 1 := by
  obtain ⟨h1, h2⟩ := part_len t
  rw [List.append_assoc, dec_pad _ _ h2, itoa_dec]
  unfold fmtL
  split
  · rw [List.append_assoc]; rfl
  · rw [List.append_assoc]; rfl
theorem itoa_le (n : Int) (h1 : -9223372036854775808 ≤ n) (h2 : n ≤ 9223372036854775807) : (Lib.itoa n).length ≤ 21 := by
  rw [itoa_dec]
  split
  · have := sec_len (-n).toNat (by omega)
    rw [List.length_cons]; omega
  · have := sec_len n.toNat (by omega)
    omega
theorem fmt_le (t : Int) (h1 : -9223372036854775808 ≤ t) (h2 : t ≤ 9223372036854775807) : (fmtL t).length ≤ 40 := by
  obtain ⟨h3, h4⟩ := part_len t
  have := itoa_le (t / 1048576) (by omega) (by omega)
  rw [fmt_eq, List.length_append, List.length_append, List.length_append, rep_len, List.length_singleton]
  omega
def sf_fmt : SFn := ⟨1, 18,
  .seq (.reg [⟨(some 2), .mv (.k (.c (.d (.str ⟨#[]⟩)))), none⟩])
  (.seq (.reg [⟨(some 4), .mv (.t 0), none⟩,
    ⟨(some 5), .call 25 [(.t 4)] none, none⟩,
    ⟨(some 6), .call 43 [(.t 5)] none, none⟩,
    ⟨(some 3), .mv (.t 6), none⟩])
  (.seq (.reg [⟨(some 7), .mv (.t 0), none⟩,
    ⟨(some 8), .call 23 [(.t 7)] none, none⟩,
    ⟨(some 9), .call 43 [(.t 8)] none, none⟩,
    ⟨(some 10), .bin .add (.t 9) (.k (.c (.d (.str ⟨#[46]⟩)))), none⟩,
    ⟨(some 11), .mv (.t 3), none⟩,
    ⟨(some 12), .lenStr (.t 11), none⟩,
    ⟨(some 13), .bin .sub (.k (.c (.d (.int .i64 7)))) (.t 12), none⟩,
    ⟨(some 14), .call 44 [(.k (.c (.d (.str ⟨#[48]⟩)))), (.t 13)] none, none⟩,
    ⟨(some 15), .bin .add (.t 10) (.t 14), none⟩,
    ⟨(some 16), .mv (.t 3), none⟩,
    ⟨(some 17), .bin .add (.t 15) (.t 16), none⟩,
    ⟨(some 2), .mv (.t 17), none⟩])
  (.ret))),
  [(2, none)]⟩
theorem cf_fmt : compFn Tryd.prog { own := [], comp := [], frz := [], nils := [] } Tryd.f33 = some sf_fmt := by kernel_rfl
theorem fmt_c (G : Glob) (hP : G.at 1 = some (.ra (Lib.pow10Tab.map fun z => D.int .u64 z))) (t : Int) (h1 : -9223372036854775808 ≤ t) (h2 : t ≤ 9223372036854775807) : Den Tryd.prog G 33 [.int .i64 t] (.w (.c (.d (.str ⟨(fmtL t).toArray⟩)))) := by
  refine den_walk Tryd.func33 cf_fmt rfl rfl ?_
  obtain ⟨h3, h4⟩ := part_len t
  have h5 := itoa_le (t / 1048576) (by omega) (by omega)
  have c1 := itoa_c G hP (t % 1048576) (by omega) (by omega)
  have c2 := itoa_c G hP (t / 1048576) (by omega) (by omega)
  have c3 := repe_c G [48] (7 - (decL (t % 1048576).toNat 1).length) (by simp; omega) (by omega)
  have hr := rep_len (7 - (decL (t % 1048576).toNat 1).length)
  rw [show Lib.itoa (t % 1048576) = decL (t % 1048576).toNat 1 by rw [itoa_dec, if_neg (by omega)]] at c1
  rw [fmt_eq]
  generalize decL (t % 1048576).toNat 1 = p at *
  generalize Lib.itoa (t / 1048576) = q at *
  have e7 : ((7 - p.length : Nat) : Int) = 7 - (p.length : Int) := by omega
  rw [e7] at c3
  generalize Lib.repeatL [48] (7 - p.length) = z at *
  simp only [sf_fmt, putAll, wx, wy, wz, stV, seval, IntWalk.iteOmega, IntWalk.toNatUp, reduceCtorEq]
  refine st_call (prt_c G t) rfl (.inl rfl) ?_
  simp only [wx, wy, wz, stV, seval, IntWalk.iteOmega, IntWalk.toNatUp, reduceCtorEq]
  refine st_call (c1) rfl (.inl rfl) ?_
  simp only [wx, wy, wz, stV, seval, IntWalk.iteOmega, IntWalk.toNatUp, reduceCtorEq]
  refine st_call (snd_c G t) rfl (.inl rfl) ?_
  simp only [wx, wy, wz, stV, seval, IntWalk.iteOmega, IntWalk.toNatUp, reduceCtorEq]
  refine st_call (c2) rfl (.inl rfl) ?_
  simp only [addS, szS, wx, wy, wz, stV, seval, IntWalk.iteOmega, IntWalk.toNatUp, reduceCtorEq]
  refine st_call (c3) rfl (.inl rfl) ?_
  simp only [addS, szS, wx, wy, wz, stV, seval, IntWalk.iteOmega, IntWalk.toNatUp, reduceCtorEq]
  exact ret_d1 (by simp only [wx, wy, wz, stV, seval, IntWalk.iteOmega, IntWalk.toNatUp, reduceCtorEq])
/-! ### Parse -/
theorem num_dec (v n : Nat) (h : (v : Int) ≤ 1099511627776) : numQ (decL v n) 0 = some (v : Int) := by
  have key : ∀ (l : List UInt8) (acc : Int), (∀ x ∈ l, 48 ≤ x.toNat ∧ x.toNat ≤ 57) → 0 ≤ acc → (l.foldl (fun (a : Int) x => 10 * a + (x.toNat - 48 : Nat)) acc) ≤ 1099511627776 → numQ l acc = some (l.foldl (fun (a : Int) x => 10 * a + (x.toNat - 48 : Nat)) acc) := by
    intro l
    induction l with
    | nil => intro acc _ _ _; rfl
    | cons c r ih =>
      intro acc hd h0 hm
      have hc := hd c (by simp)
      have hmono : ∀ (l : List UInt8) (a : Int), 0 ≤ a → a ≤ l.foldl (fun (a : Int) x => 10 * a + (x.toNat - 48 : Nat)) a := by
        intro l
        induction l with
        | nil => intro a _; exact Int.le_refl _
        | cons c r ih => intro a ha; exact Int.le_trans (by omega) (ih (10 * a + (c.toNat - 48 : Nat)) (by omega))
      have hm' := hmono r (10 * acc + (c.toNat - 48 : Nat)) (by omega)
      rw [List.foldl_cons] at hm ⊢
      unfold numQ
      rw [if_neg (by omega), if_neg (by omega)]
      exact ih _ (fun x hx => hd x (by simp [hx])) (by omega) hm
  have hval : ∀ (l : List UInt8) (a : Nat), l.foldl (fun (a : Int) x => 10 * a + (x.toNat - 48 : Nat)) (a : Int) = ((l.foldl (fun a x => 10 * a + (x.toNat - 48)) a : Nat) : Int) := by
    intro l
    induction l with
    | nil => intro a; rfl
    | cons c r ih =>
      intro a
      rw [List.foldl_cons, List.foldl_cons, ← ih]
      congr 1
  have hv : (decL v n).foldl (fun (a : Int) x => 10 * a + (x.toNat - 48 : Nat)) 0 = (v : Int) := by
    rw [show (0 : Int) = ((0 : Nat) : Int) from rfl, hval]
    have := val_dec v n
    unfold valD at this
    rw [this]
  rw [key _ _ (dec_digit v n) (by omega) (by rw [hv]; exact h), hv]
theorem numQ_in : ∀ (l : List UInt8) (acc v : Int), 0 ≤ acc → acc ≤ 1099511627776 → numQ l acc = some v → 0 ≤ v ∧ v ≤ 1099511627776
  | [], acc, v, h1, h2, h => by cases h; omega
  | c :: r, acc, v, h1, h2, h => by
    unfold numQ at h
    split at h
    · cases h
    · split at h
      · cases h
      · exact numQ_in r _ v (by omega) (by omega) h
/-- The program's way. -/
def secP (l : List UInt8) (x : Int) : Int := (if hasP 45 (cutA 46 l) = true then -x else x) * 1048576
def prsG (l : List UInt8) : Option Int := match numQ (dropP 45 (cutA 46 l)) 0, numQ (cutZ 46 l) 0 with
  | some x, some p => if valT (secP l x + p) = true ∧ fmtL (secP l x + p) = l then some (secP l x + p) else none
  | _, _ => none
theorem cut_at (c : UInt8) : ∀ (a b : List UInt8), c ∉ a → cutA c (a ++ c :: b) = a ∧ cutZ c (a ++ c :: b) = b
  | [], b, _ => by simp [cutA, cutZ]
  | x :: a, b, h => by
    have h1 : x ≠ c := fun e => h (by simp [e])
    obtain ⟨e1, e2⟩ := cut_at c a b (fun e => h (by simp [e]))
    simp [cutA, cutZ, h1, e1, e2]
theorem not_dot (s : Nat) : (46 : UInt8) ∉ decL s 1 := fun h => by
  have := dec_digit s 1 46 h
  have e : (46 : UInt8).toNat = 46 := rfl
  omega
theorem prsG_fmt {t : Int} (h : valT t = true) : prsG (fmtL t) = some t := by
  have ht : -1152921504606846976 ≤ t ∧ t ≤ 1152921504606846976 := of_decide_eq_true h
  by_cases hn : t / 1048576 < 0
  · have e : fmtL t = (45 :: decL (-(t / 1048576)).toNat 1) ++ 46 :: decL (t % 1048576).toNat 7 := by unfold fmtL; rw [if_pos hn]; rfl
    obtain ⟨c1, c2⟩ := cut_at 46 (45 :: decL (-(t / 1048576)).toNat 1) (decL (t % 1048576).toNat 7) (fun hm => by
      rcases List.mem_cons.1 hm with hm | hm
      · cases hm
      · exact not_dot _ hm)
    have hs : secP (fmtL t) ((-(t / 1048576)).toNat : Int) + ((t % 1048576).toNat : Int) = t := by
      unfold secP
      rw [e, c1, if_pos (by rfl)]; omega
    unfold prsG
    have d1 : dropP 45 (cutA 46 (fmtL t)) = decL (-(t / 1048576)).toNat 1 := by rw [e, c1]; simp [dropP]
    have d2 : cutZ 46 (fmtL t) = decL (t % 1048576).toNat 7 := by rw [e, c2]
    rw [d1, d2, num_dec _ _ (by omega), num_dec _ _ (by omega)]
    simp only [hs, h, true_and, if_true]
  · have e : fmtL t = decL (t / 1048576).toNat 1 ++ 46 :: decL (t % 1048576).toNat 7 := by unfold fmtL; rw [if_neg hn]; rfl
    obtain ⟨c1, c2⟩ := cut_at 46 (decL (t / 1048576).toNat 1) (decL (t % 1048576).toNat 7) (not_dot _)
    obtain ⟨c, r, hc, hne⟩ := dec_head (v := (t / 1048576).toNat) (n := 1) (by omega)
    have hh : hasP 45 (cutA 46 (fmtL t)) = false := by rw [e, c1, hc]; exact decide_eq_false hne
    have d1 : dropP 45 (cutA 46 (fmtL t)) = decL (t / 1048576).toNat 1 := by rw [e, c1, hc]; exact if_neg hne
    have hs : secP (fmtL t) ((t / 1048576).toNat : Int) + ((t % 1048576).toNat : Int) = t := by
      unfold secP
      rw [hh, if_neg (by simp)]; omega
    unfold prsG
    have d2 : cutZ 46 (fmtL t) = decL (t % 1048576).toNat 7 := by rw [e, c2]
    rw [d1, d2, num_dec _ _ (by omega), num_dec _ _ (by omega)]
    simp only [hs, h, true_and, if_true]
theorem prsG_some {l : List UInt8} {v : Int} (h : prsG l = some v) : valT v = true ∧ fmtL v = l := by
  unfold prsG at h
  split at h
  · split at h
    · rename_i hc
      cases h; exact hc
    · cases h
  · cases h
theorem prsG_eq (l : List UInt8) : prsG l = prsT l := by
  unfold prsT
  cases h : prsG l with
  | some v =>
    obtain ⟨h1, h2⟩ := prsG_some h
    have h3 : -1152921504606846976 ≤ v ∧ v ≤ 1152921504606846976 := of_decide_eq_true h1
    rw [← h2, prs_fmt (by decide) h3.1 h3.2]
  | none =>
    cases k : prsL 1152921504606846976 l with
    | none => rfl
    | some v =>
      obtain ⟨h1, h2, h3⟩ := prs_some k
      have := prsG_fmt (t := v) (valT_t ⟨h1, h2⟩)
      rw [h3, h] at this
      cases this
theorem drop_le (c : UInt8) (l : List UInt8) : (dropP c l).length ≤ l.length := by
  cases l with
  | nil => exact Nat.le_refl _
  | cons x l => show (if x = c then l else x :: l).length ≤ _; split <;> simp
theorem cutA_le (c : UInt8) : ∀ l : List UInt8, (cutA c l).length ≤ l.length
  | [] => Nat.le_refl _
  | x :: l => by
    have := cutA_le c l
    unfold cutA
    split
    · exact Nat.zero_le _
    · rw [List.length_cons, List.length_cons]; omega
def sf_prs : SFn := ⟨1, 58,
  .seq (.reg [⟨(some 2), .mv (.k (.c (.d (.int .i64 0)))), none⟩,
    ⟨(some 3), .mv (.k (.c (.d (.bool false)))), none⟩])
  (.seq (.reg [⟨(some 15), .mv (.t 0), none⟩,
    ⟨(some 16), .call 39 [(.t 15), (.k (.c (.d (.str ⟨#[46]⟩))))] none, none⟩,
    ⟨(some 14), .mv (.t 16), none⟩,
    ⟨(some 17), .extract (.t 14) 0, none⟩,
    ⟨(some 18), .extract (.t 14) 1, none⟩,
    ⟨(some 19), .extract (.t 14) 2, none⟩,
    ⟨(some 4), .mv (.t 17), none⟩,
    ⟨(some 5), .mv (.t 18), none⟩,
    ⟨(some 6), .mv (.t 19), none⟩])
  (.seq (.reg [⟨(some 21), .mv (.t 4), none⟩,
    ⟨(some 22), .call 40 [(.t 21), (.k (.c (.d (.str ⟨#[45]⟩))))] none, none⟩,
    ⟨(some 20), .mv (.t 22), none⟩,
    ⟨(some 23), .extract (.t 20) 0, none⟩,
    ⟨(some 24), .extract (.t 20) 1, none⟩,
    ⟨(some 7), .mv (.t 23), none⟩,
    ⟨(some 8), .mv (.t 24), none⟩])
  (.seq (.reg [⟨(some 26), .mv (.t 7), none⟩,
    ⟨(some 27), .call 41 [(.t 26)] none, none⟩,
    ⟨(some 25), .mv (.t 27), none⟩,
    ⟨(some 28), .extract (.t 25) 0, none⟩,
    ⟨(some 29), .extract (.t 25) 1, none⟩,
    ⟨(some 9), .mv (.t 28), none⟩,
    ⟨(some 10), .mv (.t 29), none⟩])
  (.seq (.reg [⟨(some 31), .mv (.t 5), none⟩,
    ⟨(some 32), .call 41 [(.t 31)] none, none⟩,
    ⟨(some 30), .mv (.t 32), none⟩,
    ⟨(some 33), .extract (.t 30) 0, none⟩,
    ⟨(some 34), .extract (.t 30) 1, none⟩,
    ⟨(some 11), .mv (.t 33), none⟩,
    ⟨(some 12), .mv (.t 34), none⟩])
  (.seq (.seq (.reg [⟨(some 35), .mv (.t 10), none⟩,
    ⟨(some 36), .un .not (.t 35), none⟩,
    ⟨(some 37), .mv (.t 36), none⟩,
    ⟨(some 38), .mv (.t 12), (some (37, false))⟩,
    ⟨(some 39), .un .not (.t 38), (some (37, false))⟩,
    ⟨(some 40), .pick (.t 37) (.k (.c (.d (.bool true)))) (.t 39), none⟩])
  (.cond (.t 40) (.seq (.reg [⟨(some 2), .mv (.k (.c (.d (.int .i64 0)))), none⟩,
     ⟨(some 3), .mv (.k (.c (.d (.bool false)))), none⟩])
   (.ret))
   (.skip)))
  (.seq (.seq (.reg [⟨(some 41), .mv (.t 8), none⟩])
  (.cond (.t 41) (.reg [⟨(some 42), .mv (.t 9), none⟩,
     ⟨(some 43), .un .neg (.t 42), none⟩,
     ⟨(some 9), .mv (.t 43), none⟩])
   (.skip)))
  (.seq (.reg [⟨(some 44), .mv (.t 9), none⟩,
    ⟨(some 45), .bin .mul (.t 44) (.k (.c (.d (.int .i64 1048576)))), none⟩,
    ⟨(some 46), .mv (.t 11), none⟩,
    ⟨(some 47), .bin .add (.t 45) (.t 46), none⟩,
    ⟨(some 13), .mv (.t 47), none⟩])
  (.seq (.seq (.reg [⟨(some 48), .mv (.t 13), none⟩,
    ⟨(some 49), .call 21 [(.t 48)] none, none⟩,
    ⟨(some 50), .un .not (.t 49), none⟩,
    ⟨(some 51), .mv (.t 50), none⟩,
    ⟨(some 52), .mv (.t 13), (some (51, false))⟩,
    ⟨(some 53), .call 33 [(.t 52)] none, (some (51, false))⟩,
    ⟨(some 54), .mv (.t 0), (some (51, false))⟩,
    ⟨(some 55), .bin .neq (.t 53) (.t 54), (some (51, false))⟩,
    ⟨(some 56), .pick (.t 51) (.k (.c (.d (.bool true)))) (.t 55), none⟩])
  (.cond (.t 56) (.seq (.reg [⟨(some 2), .mv (.k (.c (.d (.int .i64 0)))), none⟩,
     ⟨(some 3), .mv (.k (.c (.d (.bool false)))), none⟩])
   (.ret))
   (.skip)))
  (.seq (.reg [⟨(some 57), .mv (.t 13), none⟩,
    ⟨(some 2), .mv (.t 57), none⟩,
    ⟨(some 3), .mv (.k (.c (.d (.bool true)))), none⟩])
  (.ret)))))))))),
  [(2, none), (3, none)]⟩
theorem cf_prs : compFn Tryd.prog { own := [], comp := [], frz := [], nils := [] } Tryd.f19 = some sf_prs := by kernel_rfl
set_option maxHeartbeats 1600000 in
theorem prs_c (G : Glob) (hP : G.at 1 = some (.ra (Lib.pow10Tab.map fun z => D.int .u64 z))) (l : List UInt8) (hl : l.length ≤ 9223372036854775807) : Den Tryd.prog G 19 [.str ⟨l.toArray⟩] (.tup [.c (.d (.int .i64 (oV (prsT l)))), .c (.d (.bool (prsT l).isSome))]) := by
  refine den_walk Tryd.func19 cf_prs rfl rfl ?_
  rw [← prsG_eq]
  have c1 := cuts_c G l 46 hl
  have ha := cutA_le 46 l
  have c2 := cpr_c G (cutA 46 l) 45 (by omega)
  have c3 := num_c G ⟨(dropP 45 (cutA 46 l)).toArray⟩
  have c4 := num_c G ⟨(cutZ 46 l).toArray⟩
  rw [numR_list] at c3 c4
  unfold prsG
  cases k1 : numQ (dropP 45 (cutA 46 l)) 0 with
  | none =>
    rw [k1] at c3
    simp only [oV, Option.getD_none, Option.isSome_none] at c3 c4 ⊢
    simp only [sf_prs, putAll, wx, wy, wz, stV, seval, IntWalk.iteOmega, IntWalk.toNatUp, reduceCtorEq]
    refine st_call (c1) rfl (.inl rfl) ?_
    simp only [wx, wy, wz, stV, seval, IntWalk.iteOmega, IntWalk.toNatUp, reduceCtorEq]
    refine st_call (c2) rfl (.inl rfl) ?_
    simp only [wx, wy, wz, stV, seval, IntWalk.iteOmega, IntWalk.toNatUp, reduceCtorEq]
    refine st_call (c3) rfl (.inl rfl) ?_
    simp only [wx, wy, wz, stV, seval, IntWalk.iteOmega, IntWalk.toNatUp, reduceCtorEq]
    refine st_call (c4) rfl (.inl rfl) ?_
    simp only [wx, wy, wz, stV, seval, IntWalk.iteOmega, IntWalk.toNatUp, reduceCtorEq]
    exact ret_d2 (by simp only [wx, wy, wz, stV, seval, IntWalk.iteOmega, IntWalk.toNatUp, reduceCtorEq]) (by simp only [wx, wy, wz, stV, seval, IntWalk.iteOmega, IntWalk.toNatUp, reduceCtorEq])
  | some x =>
    rw [k1] at c3
    obtain ⟨x1, x2⟩ := numQ_in _ _ _ (by omega) (by omega) k1
    cases k2 : numQ (cutZ 46 l) 0 with
    | none =>
      rw [k2] at c4
      simp only [oV, Option.getD_none, Option.isSome_none, Option.getD_some, Option.isSome_some] at c3 c4 ⊢
      simp only [sf_prs, putAll, wx, wy, wz, stV, seval, IntWalk.iteOmega, IntWalk.toNatUp, reduceCtorEq]
      refine st_call (c1) rfl (.inl rfl) ?_
      simp only [wx, wy, wz, stV, seval, IntWalk.iteOmega, IntWalk.toNatUp, reduceCtorEq]
      refine st_call (c2) rfl (.inl rfl) ?_
      simp only [wx, wy, wz, stV, seval, IntWalk.iteOmega, IntWalk.toNatUp, reduceCtorEq]
      refine st_call (c3) rfl (.inl rfl) ?_
      simp only [wx, wy, wz, stV, seval, IntWalk.iteOmega, IntWalk.toNatUp, reduceCtorEq]
      refine st_call (c4) rfl (.inl rfl) ?_
      simp only [wx, wy, wz, stV, seval, IntWalk.iteOmega, IntWalk.toNatUp, reduceCtorEq]
      exact ret_d2 (by simp only [wx, wy, wz, stV, seval, IntWalk.iteOmega, IntWalk.toNatUp, reduceCtorEq]) (by simp only [wx, wy, wz, stV, seval, IntWalk.iteOmega, IntWalk.toNatUp, reduceCtorEq])
    | some p =>
      rw [k2] at c4
      obtain ⟨p1, p2⟩ := numQ_in _ _ _ (by omega) (by omega) k2
      simp only [oV, Option.getD_some, Option.isSome_some] at c3 c4 ⊢
      have hv : secP l x = -(x * 1048576) ∨ secP l x = x * 1048576 := by unfold secP; split <;> omega
      have ht : ∃ T, secP l x + p = T := ⟨_, rfl⟩
      obtain ⟨T, hT⟩ := ht
      have c5 := val_c G T
      have c6 := fmt_c G hP T (by omega) (by omega)
      have c7 : valT T = true → (fmtL T).length ≤ 40 := fun _ => fmt_le T (by omega) (by omega)
      have hT' : (if hasP 45 (cutA 46 l) = true then -x else x) * 1048576 + p = T := hT
      rw [hT]
      cases kh : hasP 45 (cutA 46 l)
      · rw [kh] at c2 hT'
        rw [if_neg (by simp)] at hT'
        cases kv : valT T
        · simp only [sf_prs, putAll, wx, wy, wz, stV, seval, IntWalk.iteOmega, IntWalk.toNatUp, reduceCtorEq]
          refine st_call (c1) rfl (.inl rfl) ?_
          simp only [wx, wy, wz, stV, seval, IntWalk.iteOmega, IntWalk.toNatUp, reduceCtorEq]
          refine st_call (c2) rfl (.inl rfl) ?_
          simp only [wx, wy, wz, stV, seval, IntWalk.iteOmega, IntWalk.toNatUp, reduceCtorEq]
          refine st_call (c3) rfl (.inl rfl) ?_
          simp only [wx, wy, wz, stV, seval, IntWalk.iteOmega, IntWalk.toNatUp, reduceCtorEq]
          refine st_call (c4) rfl (.inl rfl) ?_
          simp only [hT', wx, wy, wz, stV, seval, IntWalk.iteOmega, IntWalk.toNatUp, reduceCtorEq]
          refine st_call (c5) rfl (.inl rfl) ?_
          simp only [kv, wx, wy, wz, stV, seval, IntWalk.iteOmega, IntWalk.toNatUp, reduceCtorEq]
          simp only [Bool.false_eq_true, false_and, if_false, Option.getD_none, Option.isSome_none]
          exact ret_d2 (by simp only [wx, wy, wz, stV, seval, IntWalk.iteOmega, IntWalk.toNatUp, reduceCtorEq]) (by simp only [wx, wy, wz, stV, seval, IntWalk.iteOmega, IntWalk.toNatUp, reduceCtorEq])
        · by_cases ke : fmtL T = l
          · simp only [sf_prs, putAll, wx, wy, wz, stV, seval, IntWalk.iteOmega, IntWalk.toNatUp, reduceCtorEq]
            refine st_call (c1) rfl (.inl rfl) ?_
            simp only [wx, wy, wz, stV, seval, IntWalk.iteOmega, IntWalk.toNatUp, reduceCtorEq]
            refine st_call (c2) rfl (.inl rfl) ?_
            simp only [wx, wy, wz, stV, seval, IntWalk.iteOmega, IntWalk.toNatUp, reduceCtorEq]
            refine st_call (c3) rfl (.inl rfl) ?_
            simp only [wx, wy, wz, stV, seval, IntWalk.iteOmega, IntWalk.toNatUp, reduceCtorEq]
            refine st_call (c4) rfl (.inl rfl) ?_
            simp only [hT', wx, wy, wz, stV, seval, IntWalk.iteOmega, IntWalk.toNatUp, reduceCtorEq]
            refine st_call (c5) rfl (.inl rfl) ?_
            simp only [kv, wx, wy, wz, stV, seval, IntWalk.iteOmega, IntWalk.toNatUp, reduceCtorEq]
            refine st_call (c6) rfl (.inl rfl) ?_
            simp only [neqS, ke, decide_true, wx, wy, wz, stV, seval, IntWalk.iteOmega, IntWalk.toNatUp, reduceCtorEq]
            simp only [true_and, if_true, Option.getD_some, Option.isSome_some]
            exact ret_d2 (by simp only [wx, wy, wz, stV, seval, IntWalk.iteOmega, IntWalk.toNatUp, reduceCtorEq]) (by simp only [wx, wy, wz, stV, seval, IntWalk.iteOmega, IntWalk.toNatUp, reduceCtorEq])
          · simp only [sf_prs, putAll, wx, wy, wz, stV, seval, IntWalk.iteOmega, IntWalk.toNatUp, reduceCtorEq]
            refine st_call (c1) rfl (.inl rfl) ?_
            simp only [wx, wy, wz, stV, seval, IntWalk.iteOmega, IntWalk.toNatUp, reduceCtorEq]
            refine st_call (c2) rfl (.inl rfl) ?_
            simp only [wx, wy, wz, stV, seval, IntWalk.iteOmega, IntWalk.toNatUp, reduceCtorEq]
            refine st_call (c3) rfl (.inl rfl) ?_
            simp only [wx, wy, wz, stV, seval, IntWalk.iteOmega, IntWalk.toNatUp, reduceCtorEq]
            refine st_call (c4) rfl (.inl rfl) ?_
            simp only [hT', wx, wy, wz, stV, seval, IntWalk.iteOmega, IntWalk.toNatUp, reduceCtorEq]
            refine st_call (c5) rfl (.inl rfl) ?_
            simp only [kv, wx, wy, wz, stV, seval, IntWalk.iteOmega, IntWalk.toNatUp, reduceCtorEq]
            refine st_call (c6) rfl (.inl rfl) ?_
            simp only [neqS, ke, decide_false, wx, wy, wz, stV, seval, IntWalk.iteOmega, IntWalk.toNatUp, reduceCtorEq]
            simp only [true_and, if_false, Option.getD_none, Option.isSome_none]
            exact ret_d2 (by simp only [wx, wy, wz, stV, seval, IntWalk.iteOmega, IntWalk.toNatUp, reduceCtorEq]) (by simp only [wx, wy, wz, stV, seval, IntWalk.iteOmega, IntWalk.toNatUp, reduceCtorEq])
      · rw [kh] at c2 hT'
        rw [if_pos rfl] at hT'
        have e0 : (0 : Int) - x = -x := by omega
        cases kv : valT T
        · simp only [sf_prs, putAll, wx, wy, wz, stV, seval, IntWalk.iteOmega, IntWalk.toNatUp, reduceCtorEq]
          refine st_call (c1) rfl (.inl rfl) ?_
          simp only [wx, wy, wz, stV, seval, IntWalk.iteOmega, IntWalk.toNatUp, reduceCtorEq]
          refine st_call (c2) rfl (.inl rfl) ?_
          simp only [wx, wy, wz, stV, seval, IntWalk.iteOmega, IntWalk.toNatUp, reduceCtorEq]
          refine st_call (c3) rfl (.inl rfl) ?_
          simp only [wx, wy, wz, stV, seval, IntWalk.iteOmega, IntWalk.toNatUp, reduceCtorEq]
          refine st_call (c4) rfl (.inl rfl) ?_
          simp only [e0, hT', wx, wy, wz, stV, seval, IntWalk.iteOmega, IntWalk.toNatUp, reduceCtorEq]
          refine st_call (c5) rfl (.inl rfl) ?_
          simp only [kv, wx, wy, wz, stV, seval, IntWalk.iteOmega, IntWalk.toNatUp, reduceCtorEq]
          simp only [Bool.false_eq_true, false_and, if_false, Option.getD_none, Option.isSome_none]
          exact ret_d2 (by simp only [wx, wy, wz, stV, seval, IntWalk.iteOmega, IntWalk.toNatUp, reduceCtorEq]) (by simp only [wx, wy, wz, stV, seval, IntWalk.iteOmega, IntWalk.toNatUp, reduceCtorEq])
        · by_cases ke : fmtL T = l
          · simp only [sf_prs, putAll, wx, wy, wz, stV, seval, IntWalk.iteOmega, IntWalk.toNatUp, reduceCtorEq]
            refine st_call (c1) rfl (.inl rfl) ?_
            simp only [wx, wy, wz, stV, seval, IntWalk.iteOmega, IntWalk.toNatUp, reduceCtorEq]
            refine st_call (c2) rfl (.inl rfl) ?_
            simp only [wx, wy, wz, stV, seval, IntWalk.iteOmega, IntWalk.toNatUp, reduceCtorEq]
            refine st_call (c3) rfl (.inl rfl) ?_
            simp only [wx, wy, wz, stV, seval, IntWalk.iteOmega, IntWalk.toNatUp, reduceCtorEq]
            refine st_call (c4) rfl (.inl rfl) ?_
            simp only [e0, hT', wx, wy, wz, stV, seval, IntWalk.iteOmega, IntWalk.toNatUp, reduceCtorEq]
            refine st_call (c5) rfl (.inl rfl) ?_
            simp only [kv, wx, wy, wz, stV, seval, IntWalk.iteOmega, IntWalk.toNatUp, reduceCtorEq]
            refine st_call (c6) rfl (.inl rfl) ?_
            simp only [neqS, ke, decide_true, wx, wy, wz, stV, seval, IntWalk.iteOmega, IntWalk.toNatUp, reduceCtorEq]
            simp only [true_and, if_true, Option.getD_some, Option.isSome_some]
            exact ret_d2 (by simp only [wx, wy, wz, stV, seval, IntWalk.iteOmega, IntWalk.toNatUp, reduceCtorEq]) (by simp only [wx, wy, wz, stV, seval, IntWalk.iteOmega, IntWalk.toNatUp, reduceCtorEq])
          · simp only [sf_prs, putAll, wx, wy, wz, stV, seval, IntWalk.iteOmega, IntWalk.toNatUp, reduceCtorEq]
            refine st_call (c1) rfl (.inl rfl) ?_
            simp only [wx, wy, wz, stV, seval, IntWalk.iteOmega, IntWalk.toNatUp, reduceCtorEq]
            refine st_call (c2) rfl (.inl rfl) ?_
            simp only [wx, wy, wz, stV, seval, IntWalk.iteOmega, IntWalk.toNatUp, reduceCtorEq]
            refine st_call (c3) rfl (.inl rfl) ?_
            simp only [wx, wy, wz, stV, seval, IntWalk.iteOmega, IntWalk.toNatUp, reduceCtorEq]
            refine st_call (c4) rfl (.inl rfl) ?_
            simp only [e0, hT', wx, wy, wz, stV, seval, IntWalk.iteOmega, IntWalk.toNatUp, reduceCtorEq]
            refine st_call (c5) rfl (.inl rfl) ?_
            simp only [kv, wx, wy, wz, stV, seval, IntWalk.iteOmega, IntWalk.toNatUp, reduceCtorEq]
            refine st_call (c6) rfl (.inl rfl) ?_
            simp only [neqS, ke, decide_false, wx, wy, wz, stV, seval, IntWalk.iteOmega, IntWalk.toNatUp, reduceCtorEq]
            simp only [true_and, if_false, Option.getD_none, Option.isSome_none]
            exact ret_d2 (by simp only [wx, wy, wz, stV, seval, IntWalk.iteOmega, IntWalk.toNatUp, reduceCtorEq]) (by simp only [wx, wy, wz, stV, seval, IntWalk.iteOmega, IntWalk.toNatUp, reduceCtorEq])
end Go.Proofs.YtbpkkobhlbiclaaDoor
