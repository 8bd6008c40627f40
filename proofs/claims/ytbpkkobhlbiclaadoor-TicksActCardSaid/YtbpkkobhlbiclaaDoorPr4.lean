/- Layer 10 on data: texts: the reference. Own work. -/
import Derived.Test.YtbpkkobhlbiclaaDoorPr1
import Derived.Test.YtbpkkobhlbiclaaDoorPs3
set_option linter.unusedVariables false
set_option linter.unusedSimpArgs false
namespace Go.Proofs.YtbpkkobhlbiclaaDoor
open Go.RowKit

/-! ### decimal -/
def tailD (v : Nat) : Nat → List UInt8
  | 0 => []
  | i + 1 => UInt8.ofNat (48 + v / 10 ^ i % 10) :: tailD v i
theorem tailD_len (v : Nat) : ∀ i, (tailD v i).length = i
  | 0 => rfl
  | i + 1 => by rw [tailD, List.length_cons, tailD_len v i]
theorem dec_split (v n : Nat) : ∀ i, i ≤ (decL v n).length → decL v n = decL (v / 10 ^ i) (n - i) ++ tailD v i
  | 0, _ => by simp [tailD]
  | i + 1, h => by
    have ih := dec_split v n i (by omega)
    have hne : ¬ (v / 10 ^ i = 0 ∧ n - i = 0) := fun e => by
      rw [e.1, e.2, dec_0, List.nil_append] at ih
      have := congrArg List.length ih
      rw [tailD_len] at this; omega
    rw [ih, dec_s hne, Nat.div_div_eq_div_mul, ← Nat.pow_succ, Nat.sub_sub, List.append_assoc]
    rfl
theorem dec_more (v n i : Nat) (h : i ≤ (decL v n).length) : i < (decL v n).length ↔ ¬ (v / 10 ^ i = 0 ∧ n - i = 0) := by
  have hs := congrArg List.length (dec_split v n i h)
  rw [List.length_append, tailD_len] at hs
  constructor
  · intro hlt e
    rw [e.1, e.2, dec_0] at hs
    simp at hs; omega
  · intro hne
    have : 0 < (decL (v / 10 ^ i) (n - i)).length := by
      rw [dec_s hne, List.length_append, List.length_singleton]; omega
    omega
def decSt (v n : Nat) (i : Nat) : St := ⟨ofL [(0, .w (.c (.d (.int .i64 ((v / 10 ^ i : Nat) : Int))))), (1, .w (.c (.d (.int .i64 ((n : Int) - i))))), (5, .w (.c (.d (.str ⟨(tailD v i).toArray⟩))))], hL [], uL []⟩
theorem ofBs_one (x : UInt8) : ofBs [bD x] = some [x] := ofBs_map [x]
theorem digit_d (v : Nat) : D.int .u8 (48 + ((v % 10 : Nat) : Int)) = bD (UInt8.ofNat (48 + v % 10)) := by
  unfold bD
  rw [digit_nat]
  congr 1
def lp_rdec_0 : SCode :=
  .seq (.seq (.reg [⟨(some 6), .mv (.t 0), none⟩,
    ⟨(some 7), .bin .gtr (.t 6) (.k (.c (.d (.int .i64 0)))), none⟩,
    ⟨(some 8), .mv (.t 7), none⟩,
    ⟨(some 9), .mv (.t 1), (some (8, false))⟩,
    ⟨(some 10), .bin .gtr (.t 9) (.k (.c (.d (.int .i64 0)))), (some (8, false))⟩,
    ⟨(some 11), .pick (.t 8) (.k (.c (.d (.bool true)))) (.t 10), none⟩])
  (.cond (.t 11) (.skip)
   (.exit 0)))
  (.block 1 (.seq (.reg [⟨(some 12), .mv (.t 0), none⟩,
     ⟨(some 13), .bin .rem (.t 12) (.k (.c (.d (.int .i64 10)))), none⟩,
     ⟨(some 14), .bin .add (.k (.c (.d (.int .i64 48)))) (.t 13), none⟩,
     ⟨(some 15), .conv .u8 (.t 14), none⟩,
     ⟨(some 16), .bldSl false 1 1 (.int .u8 0) [(0, (.t 15))], none⟩,
     ⟨(some 17), .b2s (.t 16), none⟩,
     ⟨(some 18), .mv (.t 5), none⟩,
     ⟨(some 19), .bin .add (.t 17) (.t 18), none⟩,
     ⟨(some 5), .mv (.t 19), none⟩])
   (.seq (.reg [⟨(some 20), .mv (.t 0), none⟩,
     ⟨(some 21), .bin .quo (.t 20) (.k (.c (.d (.int .i64 10)))), none⟩,
     ⟨(some 0), .mv (.t 21), none⟩])
   (.reg [⟨(some 22), .mv (.t 1), none⟩,
     ⟨(some 23), .bin .sub (.t 22) (.k (.c (.d (.int .i64 1)))), none⟩,
     ⟨(some 1), .mv (.t 23), none⟩]))))
def sf_rdec : SFn := ⟨2, 25,
  .seq (.reg [⟨(some 4), .mv (.k (.c (.d (.str ⟨#[]⟩)))), none⟩])
  (.seq (.reg [⟨(some 5), .mv (.k (.c (.d (.str ⟨#[]⟩)))), none⟩])
  (.seq (.block 0 (.loop lp_rdec_0))
  (.seq (.reg [⟨(some 24), .mv (.t 5), none⟩,
    ⟨(some 4), .mv (.t 24), none⟩])
  (.ret)))),
  [(4, none)]⟩
theorem cf_rdec : compFn Tryd.prog { own := [], comp := [], frz := [], nils := [] } Tryd.f45 = some sf_rdec := by kernel_rfl
set_option maxHeartbeats 1600000 in
theorem rdec_c (G : Glob) (v n : Nat) (hv : v ≤ 9223372036854775807) (hn : n ≤ 100) (hl : (decL v n).length ≤ 200) : Den Tryd.prog G 45 [.int .i64 (v : Int), .int .i64 (n : Int)] (.w (.c (.d (.str ⟨(decL v n).toArray⟩)))) := by
  refine den_walk Tryd.func45 cf_rdec rfl rfl ?_
  simp only [sf_rdec, putAll, wx, wy, wz, stV, seval, IntWalk.iteOmega, IntWalk.toNatUp, reduceCtorEq]
  refine loop_st (decSt v n) (fun i => (decL v n).length - i) (fun i => i ≤ (decL v n).length) 0 (Nat.zero_le _) ?_ ?_
  · have e0 : v / 10 ^ 0 = v := by simp
    have e1 : tailD v 0 = [] := rfl
    refine ent_l (fun _ => 0) ?_ ?_ rfl rfl <;> simp only [wx, wex, wez, stV, seval, IntWalk.iteOmega, IntWalk.toNatUp, reduceCtorEq, e0, e1, Int.sub_zero]
  · intro i hi
    have hm := dec_more v n i hi
    have hle : v / 10 ^ i ≤ v := Nat.div_le_self _ _
    have hd := digit_d (v / 10 ^ i)
    have hs := dec_split v n i hi
    have hlen := tailD_len v i
    have hdiv : v / 10 ^ (i + 1) = v / 10 ^ i / 10 := by rw [Nat.pow_succ, Nat.div_div_eq_div_mul]
    have ht : tailD v (i + 1) = UInt8.ofNat (48 + v / 10 ^ i % 10) :: tailD v i := rfl
    by_cases hlt : i < (decL v n).length
    · have hne := hm.1 hlt
      have e1 : ((v / 10 ^ i : Nat) : Int).tmod 10 = ((v / 10 ^ i % 10 : Nat) : Int) := by rw [Int.tmod_eq_emod_of_nonneg (Int.natCast_nonneg _)]; rfl
      have e2 : ((v / 10 ^ i : Nat) : Int).tdiv 10 = ((v / 10 ^ i / 10 : Nat) : Int) := by rw [Int.tdiv_eq_ediv_of_nonneg (Int.natCast_nonneg _)]; rfl
      have hq : v / 10 ^ i % 10 < 10 := Nat.mod_lt _ (by decide)
      rw [← hdiv] at e2
      have hnext : v / 10 ^ (i + 1) ≤ v := Nat.div_le_self _ _
      generalize hX : v / 10 ^ i = X at *
      generalize hY : v / 10 ^ (i + 1) = Y at *
      generalize hZ : tailD v i = Z at *
      generalize UInt8.ofNat (48 + X % 10) = D at *
      have e3 : (n : Int) - (i : Int) - 1 = (n : Int) - ((i : Int) + 1) := by omega
      have e10 : ((10 : Int) = 0) = False := eq_false (by decide)
      by_cases hp : 0 < X
      · have hgt : ((X : Int) > 0) = True := eq_true (by omega)
        simp only [lp_rdec_0, decSt, wx, wy, wz, stV, seval, IntWalk.iteOmega, IntWalk.toNatUp, reduceCtorEq, hX, hZ, hgt, e1, e2, hd, ofBs_one, addS, List.singleton_append, hlen]
        refine lop_next (i + 1) (by omega) (by omega) (ent_l (fun _ => 0) ?_ ?_ rfl rfl) <;> simp only [wx, wex, wez, stV, seval, IntWalk.iteOmega, IntWalk.toNatUp, reduceCtorEq, hY, ht, e3]
      · have hgt : ((X : Int) > 0) = False := eq_false (by omega)
        have hgt2 : ((n : Int) - (i : Int) > 0) = True := eq_true (by omega)
        simp only [lp_rdec_0, decSt, wx, wy, wz, stV, seval, IntWalk.iteOmega, IntWalk.toNatUp, reduceCtorEq, hX, hZ, hgt, hgt2, e1, e2, hd, ofBs_one, addS, List.singleton_append, hlen]
        refine lop_next (i + 1) (by omega) (by omega) (ent_l (fun _ => 0) ?_ ?_ rfl rfl) <;> simp only [wx, wex, wez, stV, seval, IntWalk.iteOmega, IntWalk.toNatUp, reduceCtorEq, hY, ht, e3]
    · have hz : v / 10 ^ i = 0 ∧ n - i = 0 := by
        rcases Classical.em (v / 10 ^ i = 0 ∧ n - i = 0) with h | h
        · exact h
        · exact absurd (hm.2 h) hlt
      rw [hz.1, hz.2, dec_0, List.nil_append] at hs
      have hgt2 : ((n : Int) - (i : Int) > 0) = False := eq_false (by omega)
      have hgt : ((0 : Int) > 0) = False := eq_false (by decide)
      simp only [lp_rdec_0, decSt, wx, wy, wz, stV, seval, IntWalk.iteOmega, IntWalk.toNatUp, reduceCtorEq, hz.1, hgt, hgt2]
      rw [hs]
      exact ret_d1 (by simp only [wx, wy, wz, stV, seval, IntWalk.iteOmega, IntWalk.toNatUp, reduceCtorEq])
/-! ### Format -/
theorem dec20 (s : Nat) (h : s ≤ 18446744073709551616) : (decL s 1).length ≤ 20 := dec_le 20 _ _ (by omega) (by omega)
theorem dec7 (t : Int) : (decL (t % 1048576).toNat 7).length = 7 := dec_len (by omega)
theorem fmt20 (t : Int) (h1 : -9223372036854775808 ≤ t) (h2 : t ≤ 9223372036854775807) : (fmtL t).length ≤ 40 := by
  have h7 := dec7 t
  have a1 := dec20 (-(t / 1048576)).toNat (by omega)
  have a2 := dec20 (t / 1048576).toNat (by omega)
  unfold fmtL fmtU
  split
  · rw [List.length_cons, List.length_append, List.length_cons]; omega
  · rw [List.length_append, List.length_cons]; omega
def sf_rfmt : SFn := ⟨1, 24,
  .seq (.reg [⟨(some 2), .mv (.k (.c (.d (.str ⟨#[]⟩)))), none⟩])
  (.seq (.reg [⟨(some 4), .mv (.t 0), none⟩,
    ⟨(some 5), .call 24 [(.t 4)] none, none⟩,
    ⟨(some 3), .mv (.t 5), none⟩])
  (.seq (.seq (.reg [⟨(some 6), .mv (.t 3), none⟩,
    ⟨(some 7), .bin .lss (.t 6) (.k (.c (.d (.int .i64 0)))), none⟩])
  (.cond (.t 7) (.seq (.reg [⟨(some 8), .mv (.t 3), none⟩,
     ⟨(some 9), .un .neg (.t 8), none⟩,
     ⟨(some 10), .call 45 [(.t 9), (.k (.c (.d (.int .i64 1))))] none, none⟩,
     ⟨(some 11), .bin .add (.k (.c (.d (.str ⟨#[45]⟩)))) (.t 10), none⟩,
     ⟨(some 12), .bin .add (.t 11) (.k (.c (.d (.str ⟨#[46]⟩)))), none⟩,
     ⟨(some 13), .mv (.t 0), none⟩,
     ⟨(some 14), .call 26 [(.t 13)] none, none⟩,
     ⟨(some 15), .call 45 [(.t 14), (.k (.c (.d (.int .i64 7))))] none, none⟩,
     ⟨(some 16), .bin .add (.t 12) (.t 15), none⟩,
     ⟨(some 2), .mv (.t 16), none⟩])
   (.ret))
   (.skip)))
  (.seq (.reg [⟨(some 17), .mv (.t 3), none⟩,
    ⟨(some 18), .call 45 [(.t 17), (.k (.c (.d (.int .i64 1))))] none, none⟩,
    ⟨(some 19), .bin .add (.t 18) (.k (.c (.d (.str ⟨#[46]⟩)))), none⟩,
    ⟨(some 20), .mv (.t 0), none⟩,
    ⟨(some 21), .call 26 [(.t 20)] none, none⟩,
    ⟨(some 22), .call 45 [(.t 21), (.k (.c (.d (.int .i64 7))))] none, none⟩,
    ⟨(some 23), .bin .add (.t 19) (.t 22), none⟩,
    ⟨(some 2), .mv (.t 23), none⟩])
  (.ret)))),
  [(2, none)]⟩
theorem cf_rfmt : compFn Tryd.prog { own := [], comp := [], frz := [], nils := [] } Tryd.f34 = some sf_rfmt := by kernel_rfl
theorem rfmt_c (G : Glob) (t : Int) (h1 : -9223372036854775808 ≤ t) (h2 : t ≤ 9223372036854775807) : Den Tryd.prog G 34 [.int .i64 t] (.w (.c (.d (.str ⟨(fmtL t).toArray⟩)))) := by
  refine den_walk Tryd.func34 cf_rfmt rfl rfl ?_
  have h7 := dec7 t
  have p0 : (((t % 1048576).toNat : Nat) : Int) = t % 1048576 := by omega
  have c2 := rdec_c G (t % 1048576).toNat 7 (by omega) (by omega) (by omega)
  rw [p0] at c2
  unfold fmtL fmtU
  by_cases hn : t / 1048576 < 0
  · rw [if_pos hn]
    have a1 := dec20 (-(t / 1048576)).toNat (by omega)
    have c1 := rdec_c G (-(t / 1048576)).toNat 1 (by omega) (by omega) (by omega)
    have p1 : (((-(t / 1048576)).toNat : Nat) : Int) = 0 - t / 1048576 := by omega
    rw [p1] at c1
    have es : ([45] ++ decL (-(t / 1048576)).toNat 1) ++ [46] ++ decL (t % 1048576).toNat 7 = 45 :: (decL (-(t / 1048576)).toNat 1 ++ 46 :: decL (t % 1048576).toNat 7) := by simp
    rw [← es]
    generalize decL (-(t / 1048576)).toNat 1 = A at *
    generalize decL (t % 1048576).toNat 7 = B at *
    simp only [sf_rfmt, putAll, wx, wy, wz, stV, seval, IntWalk.iteOmega, IntWalk.toNatUp, reduceCtorEq]
    refine st_call (rsnd_c G t h1 h2) rfl (.inl rfl) ?_
    simp only [wx, wy, wz, stV, seval, IntWalk.iteOmega, IntWalk.toNatUp, reduceCtorEq]
    refine st_call (c1) rfl (.inl rfl) ?_
    simp only [addS, wx, wy, wz, stV, seval, IntWalk.iteOmega, IntWalk.toNatUp, reduceCtorEq]
    refine st_call (rprt_c G t h1 h2) rfl (.inl rfl) ?_
    simp only [wx, wy, wz, stV, seval, IntWalk.iteOmega, IntWalk.toNatUp, reduceCtorEq]
    refine st_call (c2) rfl (.inl rfl) ?_
    simp only [addS, wx, wy, wz, stV, seval, IntWalk.iteOmega, IntWalk.toNatUp, reduceCtorEq]
    exact ret_d1 (by simp only [wx, wy, wz, stV, seval, IntWalk.iteOmega, IntWalk.toNatUp, reduceCtorEq])
  · rw [if_neg hn]
    have a1 := dec20 (t / 1048576).toNat (by omega)
    have c1 := rdec_c G (t / 1048576).toNat 1 (by omega) (by omega) (by omega)
    have p1 : (((t / 1048576).toNat : Nat) : Int) = t / 1048576 := by omega
    rw [p1] at c1
    have es : decL (t / 1048576).toNat 1 ++ [46] ++ decL (t % 1048576).toNat 7 = decL (t / 1048576).toNat 1 ++ 46 :: decL (t % 1048576).toNat 7 := by simp
    rw [← es]
    generalize decL (t / 1048576).toNat 1 = A at *
    generalize decL (t % 1048576).toNat 7 = B at *
    simp only [sf_rfmt, putAll, wx, wy, wz, stV, seval, IntWalk.iteOmega, IntWalk.toNatUp, reduceCtorEq]
    refine st_call (rsnd_c G t h1 h2) rfl (.inl rfl) ?_
    simp only [wx, wy, wz, stV, seval, IntWalk.iteOmega, IntWalk.toNatUp, reduceCtorEq]
    refine st_call (c1) rfl (.inl rfl) ?_
    simp only [addS, wx, wy, wz, stV, seval, IntWalk.iteOmega, IntWalk.toNatUp, reduceCtorEq]
    refine st_call (rprt_c G t h1 h2) rfl (.inl rfl) ?_
    simp only [wx, wy, wz, stV, seval, IntWalk.iteOmega, IntWalk.toNatUp, reduceCtorEq]
    refine st_call (c2) rfl (.inl rfl) ?_
    simp only [addS, wx, wy, wz, stV, seval, IntWalk.iteOmega, IntWalk.toNatUp, reduceCtorEq]
    exact ret_d1 (by simp only [wx, wy, wz, stV, seval, IntWalk.iteOmega, IntWalk.toNatUp, reduceCtorEq])
/-! ### digits -/
theorem getB8 {l : List UInt8} {j : Nat} (h : j < l.length) : l[j]? = some (l.getD j 0) := by
  rw [List.getD_eq_getElem?_getD, List.getElem?_eq_getElem h]; rfl
theorem digB_take {l : List UInt8} {i : Nat} (h : i < l.length) : digB (l.take (i + 1)) = (digB (l.take i) && decide (48 ≤ (l.getD i 0).toNat ∧ (l.getD i 0).toNat ≤ 57)) := by
  have g : l.getD i 0 = l[i] := by rw [List.getD_eq_getElem?_getD, List.getElem?_eq_getElem h]; rfl
  unfold digB
  rw [List.take_succ_eq_append_getElem h, List.all_append, g]
  simp
theorem valD_take {l : List UInt8} {i : Nat} (h : i < l.length) : valD (l.take (i + 1)) = 10 * valD (l.take i) + ((l.getD i 0).toNat - 48) := by
  have g : l.getD i 0 = l[i] := by rw [List.getD_eq_getElem?_getD, List.getElem?_eq_getElem h]; rfl
  rw [List.take_succ_eq_append_getElem h, valD_snoc, g]
theorem valD_lt {l : List UInt8} : ∀ i, i ≤ l.length → digB (l.take i) = true → valD (l.take i) < 10 ^ i
  | 0, _, _ => by simp [valD]
  | i + 1, h, hd => by
    rw [digB_take (by omega), Bool.and_eq_true] at hd
    have ih := valD_lt i (by omega) hd.1
    have hx := of_decide_eq_true hd.2
    rw [valD_take (by omega), Nat.pow_succ]
    omega
theorem digO_lt {l : List UInt8} (h : digO l = true) : valD l < 1000000000000000000 := by
  unfold digO at h
  rw [Bool.and_eq_true] at h
  have h1 := of_decide_eq_true h.1
  have h2 := valD_lt (l := l) l.length (Nat.le_refl _) (by rw [List.take_length]; exact h.2)
  rw [List.take_length] at h2
  have h3 : 10 ^ l.length ≤ 10 ^ 18 := Nat.pow_le_pow_right (by decide) h1.2
  omega
def digSt (l : List UInt8) (i : Nat) : St := ⟨ofL [(0, .w (.c (.d (.str ⟨l.toArray⟩)))), (4, .w (.c (.d (.int .i64 (valD (l.take i) : Int))))), (5, .w (.c (.d (.int .i64 (i : Int)))))], hL [], uL []⟩
theorem digB_false {l : List UInt8} {i : Nat} (h : i < l.length) (hx : ¬ (48 ≤ (l.getD i 0).toNat ∧ (l.getD i 0).toNat ≤ 57)) : digB l = false := by
  have g : l.getD i 0 = l[i] := by rw [List.getD_eq_getElem?_getD, List.getElem?_eq_getElem h]; rfl
  unfold digB
  rw [List.all_eq_false]
  exact ⟨l[i], List.getElem_mem h, by rw [← g]; simpa using hx⟩
def lp_rdig_0 : SCode :=
  .seq (.seq (.reg [⟨(some 14), .mv (.t 5), none⟩,
    ⟨(some 15), .mv (.t 0), none⟩,
    ⟨(some 16), .lenStr (.t 15), none⟩,
    ⟨(some 17), .bin .lss (.t 14) (.t 16), none⟩])
  (.cond (.t 17) (.skip)
   (.exit 0)))
  (.seq (.block 1 (.seq (.seq (.reg [⟨(some 20), .mv (.t 0), none⟩,
     ⟨(some 21), .mv (.t 5), none⟩,
     ⟨(some 22), .idxStr (.t 20) (.t 21), none⟩,
     ⟨(some 23), .bin .lss (.t 22) (.k (.c (.d (.int .u8 48)))), none⟩,
     ⟨(some 24), .mv (.t 23), none⟩,
     ⟨(some 25), .mv (.t 0), (some (24, false))⟩,
     ⟨(some 26), .mv (.t 5), (some (24, false))⟩,
     ⟨(some 27), .idxStr (.t 25) (.t 26), (some (24, false))⟩,
     ⟨(some 28), .bin .gtr (.t 27) (.k (.c (.d (.int .u8 57)))), (some (24, false))⟩,
     ⟨(some 29), .pick (.t 24) (.k (.c (.d (.bool true)))) (.t 28), none⟩])
   (.cond (.t 29) (.seq (.reg [⟨(some 2), .mv (.k (.c (.d (.int .i64 0)))), none⟩,
      ⟨(some 3), .mv (.k (.c (.d (.bool false)))), none⟩])
    (.ret))
    (.skip)))
   (.reg [⟨(some 30), .mv (.t 4), none⟩,
     ⟨(some 31), .bin .mul (.k (.c (.d (.int .i64 10)))) (.t 30), none⟩,
     ⟨(some 32), .mv (.t 0), none⟩,
     ⟨(some 33), .mv (.t 5), none⟩,
     ⟨(some 34), .idxStr (.t 32) (.t 33), none⟩,
     ⟨(some 35), .bin .sub (.t 34) (.k (.c (.d (.int .u8 48)))), none⟩,
     ⟨(some 36), .conv .i64 (.t 35), none⟩,
     ⟨(some 37), .bin .add (.t 31) (.t 36), none⟩,
     ⟨(some 4), .mv (.t 37), none⟩])))
  (.reg [⟨(some 18), .mv (.t 5), none⟩,
    ⟨(some 19), .bin .add (.t 18) (.k (.c (.d (.int .i64 1)))), none⟩,
    ⟨(some 5), .mv (.t 19), none⟩]))
def sf_rdig : SFn := ⟨1, 39,
  .seq (.reg [⟨(some 2), .mv (.k (.c (.d (.int .i64 0)))), none⟩,
    ⟨(some 3), .mv (.k (.c (.d (.bool false)))), none⟩])
  (.seq (.seq (.reg [⟨(some 6), .mv (.t 0), none⟩,
    ⟨(some 7), .lenStr (.t 6), none⟩,
    ⟨(some 8), .bin .lss (.t 7) (.k (.c (.d (.int .i64 1)))), none⟩,
    ⟨(some 9), .mv (.t 8), none⟩,
    ⟨(some 10), .mv (.t 0), (some (9, false))⟩,
    ⟨(some 11), .lenStr (.t 10), (some (9, false))⟩,
    ⟨(some 12), .bin .gtr (.t 11) (.k (.c (.d (.int .i64 18)))), (some (9, false))⟩,
    ⟨(some 13), .pick (.t 9) (.k (.c (.d (.bool true)))) (.t 12), none⟩])
  (.cond (.t 13) (.seq (.reg [⟨(some 2), .mv (.k (.c (.d (.int .i64 0)))), none⟩,
     ⟨(some 3), .mv (.k (.c (.d (.bool false)))), none⟩])
   (.ret))
   (.skip)))
  (.seq (.reg [⟨(some 4), .mv (.k (.c (.d (.int .i64 0)))), none⟩])
  (.seq (.seq (.reg [⟨(some 5), .mv (.k (.c (.d (.int .i64 0)))), none⟩])
  (.block 0 (.loop lp_rdig_0)))
  (.seq (.reg [⟨(some 38), .mv (.t 4), none⟩,
    ⟨(some 2), .mv (.t 38), none⟩,
    ⟨(some 3), .mv (.k (.c (.d (.bool true)))), none⟩])
  (.ret))))),
  [(2, none), (3, none)]⟩
theorem cf_rdig : compFn Tryd.prog { own := [], comp := [], frz := [], nils := [] } Tryd.f42 = some sf_rdig := by kernel_rfl
set_option maxHeartbeats 1600000 in
theorem rdig_c (G : Glob) (l : List UInt8) (hl : l.length ≤ 9223372036854775807) : Den Tryd.prog G 42 [.str ⟨l.toArray⟩] (.tup [.c (.d (.int .i64 (if digO l = true then (valD l : Int) else 0))), .c (.d (.bool (digO l)))]) := by
  refine den_walk Tryd.func42 cf_rdig rfl rfl ?_
  have z0 := szS l
  have y0 := dlS l
  by_cases h1 : l.length < 1
  · rw [show digO l = false by unfold digO; rw [decide_eq_false (by omega)]; rfl]
    simp only [sf_rdig, putAll, wx, wy, wz, stV, seval, IntWalk.iteOmega, IntWalk.toNatUp, reduceCtorEq, z0]
    exact ret_d2 (by simp only [wx, wy, wz, stV, seval, IntWalk.iteOmega, IntWalk.toNatUp, reduceCtorEq]) (by simp only [wx, wy, wz, stV, seval, IntWalk.iteOmega, IntWalk.toNatUp, reduceCtorEq])
  · by_cases h2 : l.length > 18
    · have h2' : ((l.length : Int) > 18) = True := eq_true (by omega)
      rw [show digO l = false by unfold digO; rw [decide_eq_false (by omega)]; rfl]
      simp only [sf_rdig, putAll, wx, wy, wz, stV, seval, IntWalk.iteOmega, IntWalk.toNatUp, reduceCtorEq, z0, h2']
      exact ret_d2 (by simp only [wx, wy, wz, stV, seval, IntWalk.iteOmega, IntWalk.toNatUp, reduceCtorEq]) (by simp only [wx, wy, wz, stV, seval, IntWalk.iteOmega, IntWalk.toNatUp, reduceCtorEq])
    · have h2' : ((l.length : Int) > 18) = False := eq_false (by omega)
      have hO : digO l = digB l := by unfold digO; rw [decide_eq_true ⟨by omega, by omega⟩]; rfl
      rw [hO]
      simp only [sf_rdig, putAll, wx, wy, wz, stV, seval, IntWalk.iteOmega, IntWalk.toNatUp, reduceCtorEq, z0, h2']
      refine loop_st (digSt l) (fun i => l.length - i) (fun i => i ≤ l.length ∧ digB (l.take i) = true) 0 ⟨Nat.zero_le _, rfl⟩ ?_ ?_
      · have e0 : valD [] = 0 := rfl
        refine ent_l (fun i => i) ?_ ?_ rfl rfl <;> simp only [wx, wex, wez, stV, seval, IntWalk.iteOmega, IntWalk.toNatUp, reduceCtorEq, e0]
      · intro i hi
        obtain ⟨hi, hd⟩ := hi
        by_cases hlt : i < l.length
        · have g := getB8 hlt
          have hb := valD_lt i hi hd
          have hp : 10 ^ i ≤ 10 ^ 17 := Nat.pow_le_pow_right (by decide) (by omega)
          have ht := valD_take hlt
          have hdt := digB_take hlt
          rw [hd, Bool.true_and] at hdt
          by_cases hx : 48 ≤ (l.getD i 0).toNat ∧ (l.getD i 0).toNat ≤ 57
          · rw [decide_eq_true hx] at hdt
            have ht' : (valD (l.take (i + 1)) : Int) = 10 * (valD (l.take i) : Int) + (((l.getD i 0).toNat : Int) - 48) := by omega
            have hV : (valD (l.take i) : Int) ≤ 100000000000000000 := by omega
            have hV0 : (0 : Int) ≤ (valD (l.take i) : Int) := Int.natCast_nonneg _
            have hgt : (((l.getD i 0).toNat : Int) > 57) = False := eq_false (by omega)
            obtain ⟨hx1, hx2⟩ := hx
            have hx3 : ((l.getD i 0).toNat : Int) ≤ 57 := by omega
            have hx4 : (48 : Int) ≤ ((l.getD i 0).toNat : Int) := by omega
            generalize hXX : l.getD i 0 = x at *
            generalize hVV : valD (l.take i) = V at *
            generalize hWW : valD (l.take (i + 1)) = W at *
            simp only [lp_rdig_0, digSt, wx, wy, wz, stV, seval, IntWalk.iteOmega, IntWalk.toNatUp, reduceCtorEq, z0, y0, g, hVV, hgt]
            refine lop_next (i + 1) (by omega) ⟨by omega, hdt⟩ (ent_l (fun i => i) ?_ ?_ rfl rfl) <;> simp only [wx, wex, wez, stV, seval, IntWalk.iteOmega, IntWalk.toNatUp, reduceCtorEq, hWW, ht']
          · rw [digB_false hlt hx]
            by_cases hx1 : (l.getD i 0).toNat < 48
            · generalize l.getD i 0 = x at *
              simp only [lp_rdig_0, digSt, wx, wy, wz, stV, seval, IntWalk.iteOmega, IntWalk.toNatUp, reduceCtorEq, z0, y0, g]
              exact ret_d2 (by simp only [wx, wy, wz, stV, seval, IntWalk.iteOmega, IntWalk.toNatUp, reduceCtorEq]) (by simp only [wx, wy, wz, stV, seval, IntWalk.iteOmega, IntWalk.toNatUp, reduceCtorEq])
            · have hgt : (((l.getD i 0).toNat : Int) > 57) = True := eq_true (by omega)
              have hx4 : (48 : Int) ≤ ((l.getD i 0).toNat : Int) := by omega
              generalize l.getD i 0 = x at *
              simp only [lp_rdig_0, digSt, wx, wy, wz, stV, seval, IntWalk.iteOmega, IntWalk.toNatUp, reduceCtorEq, z0, y0, g, hgt]
              exact ret_d2 (by simp only [wx, wy, wz, stV, seval, IntWalk.iteOmega, IntWalk.toNatUp, reduceCtorEq]) (by simp only [wx, wy, wz, stV, seval, IntWalk.iteOmega, IntWalk.toNatUp, reduceCtorEq])
        · have ht : l.take i = l := List.take_of_length_le (by omega)
          rw [ht] at hd
          rw [hd]
          simp only [lp_rdig_0, digSt, wx, wy, wz, stV, seval, IntWalk.iteOmega, IntWalk.toNatUp, reduceCtorEq, z0, ht]
          exact ret_d2 (by simp only [wx, wy, wz, stV, seval, IntWalk.iteOmega, IntWalk.toNatUp, reduceCtorEq]) (by simp only [wx, wy, wz, stV, seval, IntWalk.iteOmega, IntWalk.toNatUp, reduceCtorEq])
/-! ### Parse -/
def sf_rprs : SFn := ⟨1, 77,
  .seq (.reg [⟨(some 2), .mv (.k (.c (.d (.int .i64 0)))), none⟩,
    ⟨(some 3), .mv (.k (.c (.d (.bool false)))), none⟩])
  (.seq (.reg [⟨(some 11), .mv (.t 0), none⟩,
    ⟨(some 4), .mv (.t 11), none⟩,
    ⟨(some 5), .mv (.k (.c (.d (.int .i64 1)))), none⟩])
  (.seq (.seq (.reg [⟨(some 12), .mv (.t 4), none⟩,
    ⟨(some 13), .lenStr (.t 12), none⟩,
    ⟨(some 14), .bin .gtr (.t 13) (.k (.c (.d (.int .i64 0)))), none⟩,
    ⟨(some 15), .mv (.t 14), none⟩,
    ⟨(some 16), .mv (.t 4), (some (15, true))⟩,
    ⟨(some 17), .idxStr (.t 16) (.k (.c (.d (.int .i64 0)))), (some (15, true))⟩,
    ⟨(some 18), .bin .eql (.t 17) (.k (.c (.d (.int .u8 45)))), (some (15, true))⟩,
    ⟨(some 19), .pick (.t 15) (.t 18) (.k (.c (.d (.bool false)))), none⟩])
  (.cond (.t 19) (.reg [⟨(some 20), .mv (.t 4), none⟩,
     ⟨(some 21), .sliceStr (.t 20) (some (.k (.c (.d (.int .i64 1))))) none, none⟩,
     ⟨(some 4), .mv (.t 21), none⟩,
     ⟨(some 5), .mv (.k (.c (.d (.int .i64 (-1))))), none⟩])
   (.skip)))
  (.seq (.seq (.reg [⟨(some 22), .mv (.t 4), none⟩,
    ⟨(some 23), .lenStr (.t 22), none⟩,
    ⟨(some 24), .bin .lss (.t 23) (.k (.c (.d (.int .i64 9)))), none⟩,
    ⟨(some 25), .mv (.t 24), none⟩,
    ⟨(some 26), .mv (.t 4), (some (25, false))⟩,
    ⟨(some 27), .mv (.t 4), (some (25, false))⟩,
    ⟨(some 28), .lenStr (.t 27), (some (25, false))⟩,
    ⟨(some 29), .bin .sub (.t 28) (.k (.c (.d (.int .i64 8)))), (some (25, false))⟩,
    ⟨(some 30), .idxStr (.t 26) (.t 29), (some (25, false))⟩,
    ⟨(some 31), .bin .neq (.t 30) (.k (.c (.d (.int .u8 46)))), (some (25, false))⟩,
    ⟨(some 32), .pick (.t 25) (.k (.c (.d (.bool true)))) (.t 31), none⟩])
  (.cond (.t 32) (.seq (.reg [⟨(some 2), .mv (.k (.c (.d (.int .i64 0)))), none⟩,
     ⟨(some 3), .mv (.k (.c (.d (.bool false)))), none⟩])
   (.ret))
   (.skip)))
  (.seq (.reg [⟨(some 34), .mv (.t 4), none⟩,
    ⟨(some 35), .mv (.t 4), none⟩,
    ⟨(some 36), .lenStr (.t 35), none⟩,
    ⟨(some 37), .bin .sub (.t 36) (.k (.c (.d (.int .i64 8)))), none⟩,
    ⟨(some 38), .sliceStr (.t 34) none (some (.t 37)), none⟩,
    ⟨(some 39), .call 42 [(.t 38)] none, none⟩,
    ⟨(some 33), .mv (.t 39), none⟩,
    ⟨(some 40), .extract (.t 33) 0, none⟩,
    ⟨(some 41), .extract (.t 33) 1, none⟩,
    ⟨(some 6), .mv (.t 40), none⟩,
    ⟨(some 7), .mv (.t 41), none⟩])
  (.seq (.reg [⟨(some 43), .mv (.t 4), none⟩,
    ⟨(some 44), .mv (.t 4), none⟩,
    ⟨(some 45), .lenStr (.t 44), none⟩,
    ⟨(some 46), .bin .sub (.t 45) (.k (.c (.d (.int .i64 7)))), none⟩,
    ⟨(some 47), .sliceStr (.t 43) (some (.t 46)) none, none⟩,
    ⟨(some 48), .call 42 [(.t 47)] none, none⟩,
    ⟨(some 42), .mv (.t 48), none⟩,
    ⟨(some 49), .extract (.t 42) 0, none⟩,
    ⟨(some 50), .extract (.t 42) 1, none⟩,
    ⟨(some 8), .mv (.t 49), none⟩,
    ⟨(some 9), .mv (.t 50), none⟩])
  (.seq (.seq (.reg [⟨(some 51), .mv (.t 7), none⟩,
    ⟨(some 52), .un .not (.t 51), none⟩,
    ⟨(some 53), .mv (.t 52), none⟩,
    ⟨(some 54), .mv (.t 9), (some (53, false))⟩,
    ⟨(some 55), .un .not (.t 54), (some (53, false))⟩,
    ⟨(some 56), .pick (.t 53) (.k (.c (.d (.bool true)))) (.t 55), none⟩,
    ⟨(some 57), .mv (.t 56), none⟩,
    ⟨(some 58), .mv (.t 6), (some (57, false))⟩,
    ⟨(some 59), .bin .gtr (.t 58) (.k (.c (.d (.int .i64 1099511627777)))), (some (57, false))⟩,
    ⟨(some 60), .pick (.t 57) (.k (.c (.d (.bool true)))) (.t 59), none⟩])
  (.cond (.t 60) (.seq (.reg [⟨(some 2), .mv (.k (.c (.d (.int .i64 0)))), none⟩,
     ⟨(some 3), .mv (.k (.c (.d (.bool false)))), none⟩])
   (.ret))
   (.skip)))
  (.seq (.reg [⟨(some 61), .mv (.t 5), none⟩,
    ⟨(some 62), .mv (.t 6), none⟩,
    ⟨(some 63), .bin .mul (.t 61) (.t 62), none⟩,
    ⟨(some 64), .bin .shl (.t 63) (.k (.c (.d (.int .u64 20)))), none⟩,
    ⟨(some 65), .mv (.t 8), none⟩,
    ⟨(some 66), .bin .add (.t 64) (.t 65), none⟩,
    ⟨(some 10), .mv (.t 66), none⟩])
  (.seq (.seq (.reg [⟨(some 67), .mv (.t 10), none⟩,
    ⟨(some 68), .call 22 [(.t 67)] none, none⟩,
    ⟨(some 69), .un .not (.t 68), none⟩,
    ⟨(some 70), .mv (.t 69), none⟩,
    ⟨(some 71), .mv (.t 10), (some (70, false))⟩,
    ⟨(some 72), .call 34 [(.t 71)] none, (some (70, false))⟩,
    ⟨(some 73), .mv (.t 0), (some (70, false))⟩,
    ⟨(some 74), .bin .neq (.t 72) (.t 73), (some (70, false))⟩,
    ⟨(some 75), .pick (.t 70) (.k (.c (.d (.bool true)))) (.t 74), none⟩])
  (.cond (.t 75) (.seq (.reg [⟨(some 2), .mv (.k (.c (.d (.int .i64 0)))), none⟩,
     ⟨(some 3), .mv (.k (.c (.d (.bool false)))), none⟩])
   (.ret))
   (.skip)))
  (.seq (.reg [⟨(some 76), .mv (.t 10), none⟩,
    ⟨(some 2), .mv (.t 76), none⟩,
    ⟨(some 3), .mv (.k (.c (.d (.bool true)))), none⟩])
  (.ret)))))))))),
  [(2, none), (3, none)]⟩
theorem cf_rprs : compFn Tryd.prog { own := [], comp := [], frz := [], nils := [] } Tryd.f20 = some sf_rprs := by kernel_rfl
set_option maxHeartbeats 3200000 in
theorem rprs_c (G : Glob) (l : List UInt8) (hl : l.length ≤ 9223372036854775807) : Den Tryd.prog G 20 [.str ⟨l.toArray⟩] (.tup [.c (.d (.int .i64 (oV (prsT l)))), .c (.d (.bool (prsT l).isSome))]) := by
  refine den_walk Tryd.func20 cf_rprs rfl rfl ?_
  unfold prsT prsL
  have zl := szS l
  have yl := dlS l
  rcases l with _ | ⟨c, r⟩
  · simp only [prsV, oV, Option.getD_none, Option.isSome_none]
    simp only [sf_rprs, putAll, wx, wy, wz, stV, seval, IntWalk.iteOmega, IntWalk.toNatUp, reduceCtorEq, zl]
    exact ret_d2 (by simp only [wx, wy, wz, stV, seval, IntWalk.iteOmega, IntWalk.toNatUp, reduceCtorEq]) (by simp only [wx, wy, wz, stV, seval, IntWalk.iteOmega, IntWalk.toNatUp, reduceCtorEq])
  · have gl : (c :: r)[0]? = some c := rfl
    have hge : ((((c :: r).length : Nat) : Int) > 0) = True := eq_true (by rw [List.length_cons]; omega)
    have h1l : 1 ≤ (c :: r).length := by rw [List.length_cons]; omega
    have hcase : ∃ (t : List UInt8) (sgF : Int → Int), prsV 1152921504606846976 (c :: r) = (prsU 1152921504606846976 t).map (fun q => sgF q.1 * 1048576 + q.2) ∧ t.length ≤ (c :: r).length ∧ (∀ x, 0 ≤ x → -x ≤ sgF x ∧ sgF x ≤ x) ∧
        ((c = 45 ∧ t = r ∧ ∀ x, -1 * x = sgF x) ∨ (c ≠ 45 ∧ t = c :: r ∧ ∀ x, 1 * x = sgF x)) := by
      by_cases hc : c = 45
      · refine ⟨r, fun x => -x, ?_, by rw [List.length_cons]; omega, fun x hx => by dsimp only; omega, .inl ⟨hc, rfl, fun x => by dsimp only; omega⟩⟩
        rw [hc, prsV_neg]
        congr 1; funext q; dsimp only; omega
      · refine ⟨c :: r, fun x => x, ?_, Nat.le_refl _, fun x hx => by dsimp only; omega, .inr ⟨hc, rfl, fun x => by dsimp only; omega⟩⟩
        rw [prsV_pos _ _ hc]
    obtain ⟨t, sgF, hpv, htl, hsgB, hcase⟩ := hcase
    rw [hpv]
    have eT : (ByteArray.mk (c :: r).toArray).extract 1 (c :: r).length = ByteArray.mk r.toArray := by
      rw [extS _ _ _ (Nat.le_refl _)]; simp
    have hT : t.length ≤ 9223372036854775807 := by omega
    have z0 := szS t
    have y0 := dlS t
    generalize hll : c :: r = l at *
    rcases hcase with ⟨hc, hr, m1⟩ | ⟨hc, hr, m1⟩
    rotate_left
    · have hx : (((c.toNat : Nat) : Int) = 45) = False := eq_false (fun h => hc (UInt8.toNat_inj.1 (by show _ = 45; omega)))
      subst hr
      by_cases k1 : t.length < 9
      · have hU : prsU 1152921504606846976 t = none := by unfold prsU; rw [if_pos (.inl k1)]
        rw [hU]
        simp only [oV, Option.map_none, Option.getD_none, Option.isSome_none]
        simp only [sf_rprs, putAll, wx, wy, wz, stV, seval, IntWalk.iteOmega, IntWalk.toNatUp, reduceCtorEq, zl, yl, gl, hge, hx, eT, z0]
        exact ret_d2 (by simp only [wx, wy, wz, stV, seval, IntWalk.iteOmega, IntWalk.toNatUp, reduceCtorEq]) (by simp only [wx, wy, wz, stV, seval, IntWalk.iteOmega, IntWalk.toNatUp, reduceCtorEq])
      · have g := getB8 (l := t) (j := t.length - 8) (by omega)
        by_cases k2 : t.getD (t.length - 8) 0 = 46
        · have e1 := extS t 0 (t.length - 8) (by omega)
          have e2 := extS t (t.length - 7) t.length (Nat.le_refl _)
          rw [List.drop_zero, Nat.sub_zero] at e1
          rw [List.take_of_length_le (by rw [List.length_drop]; exact Nat.le_refl _)] at e2
          have c1 := rdig_c G (t.take (t.length - 8)) (by rw [List.length_take]; omega)
          have c2 := rdig_c G (t.drop (t.length - 7)) (by rw [List.length_drop]; omega)
          rw [k2] at g
          have b46 : ((46 : UInt8).toNat : Int) = 46 := rfl
          have hU : prsU 1152921504606846976 t = if digO (t.take (t.length - 8)) = true ∧ digO (t.drop (t.length - 7)) = true ∧ ¬ (valD (t.take (t.length - 8)) : Int) > 1152921504606846976 / 1048576 + 1 then some (valD (t.take (t.length - 8)), valD (t.drop (t.length - 7))) else none := by unfold prsU; rw [if_neg (fun h => h.elim k1 (fun h => h k2))]
          rw [hU]
          have w1 := digO_lt (l := t.take (t.length - 8))
          have w2 := digO_lt (l := t.drop (t.length - 7))
          generalize hA : t.take (t.length - 8) = A at *
          generalize hB : t.drop (t.length - 7) = B at *
          generalize hX : valD A = X at *
          generalize hY : valD B = Y at *
          cases o1 : digO A
          · rw [o1] at c1
            simp only [oV, Bool.false_eq_true, false_and, if_false, Option.map_none, Option.getD_none, Option.isSome_none] at c1 ⊢
            simp only [sf_rprs, putAll, wx, wy, wz, stV, seval, IntWalk.iteOmega, IntWalk.toNatUp, reduceCtorEq, zl, yl, gl, hge, hx, eT, z0, y0, g, b46, e1]
            refine st_call (c1) rfl (.inl rfl) ?_
            simp only [z0, e2, wx, wy, wz, stV, seval, IntWalk.iteOmega, IntWalk.toNatUp, reduceCtorEq]
            refine st_call (c2) rfl (.inl rfl) ?_
            simp only [wx, wy, wz, stV, seval, IntWalk.iteOmega, IntWalk.toNatUp, reduceCtorEq]
            exact ret_d2 (by simp only [wx, wy, wz, stV, seval, IntWalk.iteOmega, IntWalk.toNatUp, reduceCtorEq]) (by simp only [wx, wy, wz, stV, seval, IntWalk.iteOmega, IntWalk.toNatUp, reduceCtorEq])
          · rw [o1] at c1
            have q1 := w1 o1
            cases o2 : digO B
            · rw [o2] at c2
              simp only [oV, Bool.false_eq_true, false_and, and_false, if_false, if_true, Option.map_none, Option.getD_none, Option.isSome_none] at c1 c2 ⊢
              simp only [sf_rprs, putAll, wx, wy, wz, stV, seval, IntWalk.iteOmega, IntWalk.toNatUp, reduceCtorEq, zl, yl, gl, hge, hx, eT, z0, y0, g, b46, e1]
              refine st_call (c1) rfl (.inl rfl) ?_
              simp only [z0, e2, wx, wy, wz, stV, seval, IntWalk.iteOmega, IntWalk.toNatUp, reduceCtorEq]
              refine st_call (c2) rfl (.inl rfl) ?_
              simp only [wx, wy, wz, stV, seval, IntWalk.iteOmega, IntWalk.toNatUp, reduceCtorEq]
              exact ret_d2 (by simp only [wx, wy, wz, stV, seval, IntWalk.iteOmega, IntWalk.toNatUp, reduceCtorEq]) (by simp only [wx, wy, wz, stV, seval, IntWalk.iteOmega, IntWalk.toNatUp, reduceCtorEq])
            · rw [o2] at c2
              have q2 := w2 o2
              by_cases k3 : (X : Int) > 1099511627777
              · have k3' : ¬ ¬ ((X : Int) > 1152921504606846976 / 1048576 + 1) := fun h => h (by omega)
                simp only [oV, true_and, k3', if_false, if_true, Option.map_none, Option.getD_none, Option.isSome_none] at c1 c2 ⊢
                simp only [sf_rprs, putAll, wx, wy, wz, stV, seval, IntWalk.iteOmega, IntWalk.toNatUp, reduceCtorEq, zl, yl, gl, hge, hx, eT, z0, y0, g, b46, e1]
                refine st_call (c1) rfl (.inl rfl) ?_
                simp only [z0, e2, wx, wy, wz, stV, seval, IntWalk.iteOmega, IntWalk.toNatUp, reduceCtorEq]
                refine st_call (c2) rfl (.inl rfl) ?_
                simp only [eq_true k3, wx, wy, wz, stV, seval, IntWalk.iteOmega, IntWalk.toNatUp, reduceCtorEq]
                exact ret_d2 (by simp only [wx, wy, wz, stV, seval, IntWalk.iteOmega, IntWalk.toNatUp, reduceCtorEq]) (by simp only [wx, wy, wz, stV, seval, IntWalk.iteOmega, IntWalk.toNatUp, reduceCtorEq])
              · have k3' : ¬ ((X : Int) > 1152921504606846976 / 1048576 + 1) := fun h => by omega
                have hXi : (X : Int) ≤ 1099511627777 := by omega
                have hYi : (Y : Int) < 1000000000000000000 := by omega
                simp only [true_and, k3', not_false_eq_true, if_true, Option.map_some] at c1 c2 ⊢
                have mX := m1 (X : Int)
                have bX := hsgB (X : Int) (Int.natCast_nonneg _)
                generalize sgF (X : Int) = Z at *
                obtain ⟨V, hV⟩ : ∃ V : Int, Z * 1048576 + (Y : Int) = V := ⟨_, rfl⟩
                rw [hV]
                have c3 := rval_c G V
                have c4 := rfmt_c G V (by omega) (by omega)
                cases kv : valT V
                · have kv' : ¬ (-1152921504606846976 ≤ V ∧ V ≤ 1152921504606846976 ∧ fmtL V = t) := fun h => by
                    have := valT_t ⟨h.1, h.2.1⟩
                    rw [kv] at this; cases this
                  simp only [oV, kv', if_false, Option.getD_none, Option.isSome_none]
                  simp only [sf_rprs, putAll, wx, wy, wz, stV, seval, IntWalk.iteOmega, IntWalk.toNatUp, reduceCtorEq, zl, yl, gl, hge, hx, eT, z0, y0, g, b46, e1]
                  refine st_call (c1) rfl (.inl rfl) ?_
                  simp only [z0, e2, wx, wy, wz, stV, seval, IntWalk.iteOmega, IntWalk.toNatUp, reduceCtorEq]
                  refine st_call (c2) rfl (.inl rfl) ?_
                  simp only [eq_false k3, bI64, mX, hV, wx, wy, wz, stV, seval, IntWalk.iteOmega, IntWalk.toNatUp, reduceCtorEq]
                  refine st_call (c3) rfl (.inl rfl) ?_
                  simp only [kv, wx, wy, wz, stV, seval, IntWalk.iteOmega, IntWalk.toNatUp, reduceCtorEq]
                  exact ret_d2 (by simp only [wx, wy, wz, stV, seval, IntWalk.iteOmega, IntWalk.toNatUp, reduceCtorEq]) (by simp only [wx, wy, wz, stV, seval, IntWalk.iteOmega, IntWalk.toNatUp, reduceCtorEq])
                · have kv2 : -1152921504606846976 ≤ V ∧ V ≤ 1152921504606846976 := of_decide_eq_true kv
                  by_cases kf : fmtL V = t
                  · have kv' : -1152921504606846976 ≤ V ∧ V ≤ 1152921504606846976 ∧ fmtL V = t := ⟨kv2.1, kv2.2, kf⟩
                    rw [if_pos kv']
                    simp only [oV, Option.getD_some, Option.isSome_some]
                    simp only [sf_rprs, putAll, wx, wy, wz, stV, seval, IntWalk.iteOmega, IntWalk.toNatUp, reduceCtorEq, zl, yl, gl, hge, hx, eT, z0, y0, g, b46, e1]
                    refine st_call (c1) rfl (.inl rfl) ?_
                    simp only [z0, e2, wx, wy, wz, stV, seval, IntWalk.iteOmega, IntWalk.toNatUp, reduceCtorEq]
                    refine st_call (c2) rfl (.inl rfl) ?_
                    simp only [eq_false k3, bI64, mX, hV, wx, wy, wz, stV, seval, IntWalk.iteOmega, IntWalk.toNatUp, reduceCtorEq]
                    refine st_call (c3) rfl (.inl rfl) ?_
                    simp only [kv, wx, wy, wz, stV, seval, IntWalk.iteOmega, IntWalk.toNatUp, reduceCtorEq]
                    refine st_call (c4) rfl (.inl rfl) ?_
                    simp only [neqS, kf, decide_true, wx, wy, wz, stV, seval, IntWalk.iteOmega, IntWalk.toNatUp, reduceCtorEq]
                    exact ret_d2 (by simp only [wx, wy, wz, stV, seval, IntWalk.iteOmega, IntWalk.toNatUp, reduceCtorEq]) (by simp only [wx, wy, wz, stV, seval, IntWalk.iteOmega, IntWalk.toNatUp, reduceCtorEq])
                  · have kv' : ¬ (-1152921504606846976 ≤ V ∧ V ≤ 1152921504606846976 ∧ fmtL V = t) := fun h => kf h.2.2
                    rw [if_neg kv']
                    simp only [oV, Option.getD_none, Option.isSome_none]
                    simp only [sf_rprs, putAll, wx, wy, wz, stV, seval, IntWalk.iteOmega, IntWalk.toNatUp, reduceCtorEq, zl, yl, gl, hge, hx, eT, z0, y0, g, b46, e1]
                    refine st_call (c1) rfl (.inl rfl) ?_
                    simp only [z0, e2, wx, wy, wz, stV, seval, IntWalk.iteOmega, IntWalk.toNatUp, reduceCtorEq]
                    refine st_call (c2) rfl (.inl rfl) ?_
                    simp only [eq_false k3, bI64, mX, hV, wx, wy, wz, stV, seval, IntWalk.iteOmega, IntWalk.toNatUp, reduceCtorEq]
                    refine st_call (c3) rfl (.inl rfl) ?_
                    simp only [kv, wx, wy, wz, stV, seval, IntWalk.iteOmega, IntWalk.toNatUp, reduceCtorEq]
                    refine st_call (c4) rfl (.inl rfl) ?_
                    simp only [neqS, kf, decide_false, wx, wy, wz, stV, seval, IntWalk.iteOmega, IntWalk.toNatUp, reduceCtorEq]
                    exact ret_d2 (by simp only [wx, wy, wz, stV, seval, IntWalk.iteOmega, IntWalk.toNatUp, reduceCtorEq]) (by simp only [wx, wy, wz, stV, seval, IntWalk.iteOmega, IntWalk.toNatUp, reduceCtorEq])
        · have hU : prsU 1152921504606846976 t = none := by unfold prsU; rw [if_pos (.inr k2)]
          rw [hU]
          have b46 : (((t.getD (t.length - 8) 0).toNat : Int) = 46) = False := eq_false (fun h => k2 (UInt8.toNat_inj.1 (by show _ = 46; omega)))
          generalize t.getD (t.length - 8) 0 = x at *
          simp only [oV, Option.map_none, Option.getD_none, Option.isSome_none]
          simp only [sf_rprs, putAll, wx, wy, wz, stV, seval, IntWalk.iteOmega, IntWalk.toNatUp, reduceCtorEq, zl, yl, gl, hge, hx, eT, z0, y0, g, b46]
          exact ret_d2 (by simp only [wx, wy, wz, stV, seval, IntWalk.iteOmega, IntWalk.toNatUp, reduceCtorEq]) (by simp only [wx, wy, wz, stV, seval, IntWalk.iteOmega, IntWalk.toNatUp, reduceCtorEq])
    · have hx : ((c.toNat : Nat) : Int) = 45 := by rw [hc]; rfl
      rw [← hr] at eT
      by_cases k1 : t.length < 9
      · have hU : prsU 1152921504606846976 t = none := by unfold prsU; rw [if_pos (.inl k1)]
        rw [hU]
        simp only [oV, Option.map_none, Option.getD_none, Option.isSome_none]
        simp only [sf_rprs, putAll, wx, wy, wz, stV, seval, IntWalk.iteOmega, IntWalk.toNatUp, reduceCtorEq, zl, yl, gl, hge, hx, eT, z0]
        exact ret_d2 (by simp only [wx, wy, wz, stV, seval, IntWalk.iteOmega, IntWalk.toNatUp, reduceCtorEq]) (by simp only [wx, wy, wz, stV, seval, IntWalk.iteOmega, IntWalk.toNatUp, reduceCtorEq])
      · have g := getB8 (l := t) (j := t.length - 8) (by omega)
        by_cases k2 : t.getD (t.length - 8) 0 = 46
        · have e1 := extS t 0 (t.length - 8) (by omega)
          have e2 := extS t (t.length - 7) t.length (Nat.le_refl _)
          rw [List.drop_zero, Nat.sub_zero] at e1
          rw [List.take_of_length_le (by rw [List.length_drop]; exact Nat.le_refl _)] at e2
          have c1 := rdig_c G (t.take (t.length - 8)) (by rw [List.length_take]; omega)
          have c2 := rdig_c G (t.drop (t.length - 7)) (by rw [List.length_drop]; omega)
          rw [k2] at g
          have b46 : ((46 : UInt8).toNat : Int) = 46 := rfl
          have hU : prsU 1152921504606846976 t = if digO (t.take (t.length - 8)) = true ∧ digO (t.drop (t.length - 7)) = true ∧ ¬ (valD (t.take (t.length - 8)) : Int) > 1152921504606846976 / 1048576 + 1 then some (valD (t.take (t.length - 8)), valD (t.drop (t.length - 7))) else none := by unfold prsU; rw [if_neg (fun h => h.elim k1 (fun h => h k2))]
          rw [hU]
          have w1 := digO_lt (l := t.take (t.length - 8))
          have w2 := digO_lt (l := t.drop (t.length - 7))
          generalize hA : t.take (t.length - 8) = A at *
          generalize hB : t.drop (t.length - 7) = B at *
          generalize hX : valD A = X at *
          generalize hY : valD B = Y at *
          cases o1 : digO A
          · rw [o1] at c1
            simp only [oV, Bool.false_eq_true, false_and, if_false, Option.map_none, Option.getD_none, Option.isSome_none] at c1 ⊢
            simp only [sf_rprs, putAll, wx, wy, wz, stV, seval, IntWalk.iteOmega, IntWalk.toNatUp, reduceCtorEq, zl, yl, gl, hge, hx, eT, z0, y0, g, b46, e1]
            refine st_call (c1) rfl (.inl rfl) ?_
            simp only [z0, e2, wx, wy, wz, stV, seval, IntWalk.iteOmega, IntWalk.toNatUp, reduceCtorEq]
            refine st_call (c2) rfl (.inl rfl) ?_
            simp only [wx, wy, wz, stV, seval, IntWalk.iteOmega, IntWalk.toNatUp, reduceCtorEq]
            exact ret_d2 (by simp only [wx, wy, wz, stV, seval, IntWalk.iteOmega, IntWalk.toNatUp, reduceCtorEq]) (by simp only [wx, wy, wz, stV, seval, IntWalk.iteOmega, IntWalk.toNatUp, reduceCtorEq])
          · rw [o1] at c1
            have q1 := w1 o1
            cases o2 : digO B
            · rw [o2] at c2
              simp only [oV, Bool.false_eq_true, false_and, and_false, if_false, if_true, Option.map_none, Option.getD_none, Option.isSome_none] at c1 c2 ⊢
              simp only [sf_rprs, putAll, wx, wy, wz, stV, seval, IntWalk.iteOmega, IntWalk.toNatUp, reduceCtorEq, zl, yl, gl, hge, hx, eT, z0, y0, g, b46, e1]
              refine st_call (c1) rfl (.inl rfl) ?_
              simp only [z0, e2, wx, wy, wz, stV, seval, IntWalk.iteOmega, IntWalk.toNatUp, reduceCtorEq]
              refine st_call (c2) rfl (.inl rfl) ?_
              simp only [wx, wy, wz, stV, seval, IntWalk.iteOmega, IntWalk.toNatUp, reduceCtorEq]
              exact ret_d2 (by simp only [wx, wy, wz, stV, seval, IntWalk.iteOmega, IntWalk.toNatUp, reduceCtorEq]) (by simp only [wx, wy, wz, stV, seval, IntWalk.iteOmega, IntWalk.toNatUp, reduceCtorEq])
            · rw [o2] at c2
              have q2 := w2 o2
              by_cases k3 : (X : Int) > 1099511627777
              · have k3' : ¬ ¬ ((X : Int) > 1152921504606846976 / 1048576 + 1) := fun h => h (by omega)
                simp only [oV, true_and, k3', if_false, if_true, Option.map_none, Option.getD_none, Option.isSome_none] at c1 c2 ⊢
                simp only [sf_rprs, putAll, wx, wy, wz, stV, seval, IntWalk.iteOmega, IntWalk.toNatUp, reduceCtorEq, zl, yl, gl, hge, hx, eT, z0, y0, g, b46, e1]
                refine st_call (c1) rfl (.inl rfl) ?_
                simp only [z0, e2, wx, wy, wz, stV, seval, IntWalk.iteOmega, IntWalk.toNatUp, reduceCtorEq]
                refine st_call (c2) rfl (.inl rfl) ?_
                simp only [eq_true k3, wx, wy, wz, stV, seval, IntWalk.iteOmega, IntWalk.toNatUp, reduceCtorEq]
                exact ret_d2 (by simp only [wx, wy, wz, stV, seval, IntWalk.iteOmega, IntWalk.toNatUp, reduceCtorEq]) (by simp only [wx, wy, wz, stV, seval, IntWalk.iteOmega, IntWalk.toNatUp, reduceCtorEq])
              · have k3' : ¬ ((X : Int) > 1152921504606846976 / 1048576 + 1) := fun h => by omega
                have hXi : (X : Int) ≤ 1099511627777 := by omega
                have hYi : (Y : Int) < 1000000000000000000 := by omega
                simp only [true_and, k3', not_false_eq_true, if_true, Option.map_some] at c1 c2 ⊢
                have mX := m1 (X : Int)
                have bX := hsgB (X : Int) (Int.natCast_nonneg _)
                generalize sgF (X : Int) = Z at *
                obtain ⟨V, hV⟩ : ∃ V : Int, Z * 1048576 + (Y : Int) = V := ⟨_, rfl⟩
                rw [hV]
                have c3 := rval_c G V
                have c4 := rfmt_c G V (by omega) (by omega)
                cases kv : valT V
                · have kv' : ¬ (-1152921504606846976 ≤ V ∧ V ≤ 1152921504606846976 ∧ fmtL V = l) := fun h => by
                    have := valT_t ⟨h.1, h.2.1⟩
                    rw [kv] at this; cases this
                  simp only [oV, kv', if_false, Option.getD_none, Option.isSome_none]
                  simp only [sf_rprs, putAll, wx, wy, wz, stV, seval, IntWalk.iteOmega, IntWalk.toNatUp, reduceCtorEq, zl, yl, gl, hge, hx, eT, z0, y0, g, b46, e1]
                  refine st_call (c1) rfl (.inl rfl) ?_
                  simp only [z0, e2, wx, wy, wz, stV, seval, IntWalk.iteOmega, IntWalk.toNatUp, reduceCtorEq]
                  refine st_call (c2) rfl (.inl rfl) ?_
                  simp only [eq_false k3, bI64, mX, hV, wx, wy, wz, stV, seval, IntWalk.iteOmega, IntWalk.toNatUp, reduceCtorEq]
                  refine st_call (c3) rfl (.inl rfl) ?_
                  simp only [kv, wx, wy, wz, stV, seval, IntWalk.iteOmega, IntWalk.toNatUp, reduceCtorEq]
                  exact ret_d2 (by simp only [wx, wy, wz, stV, seval, IntWalk.iteOmega, IntWalk.toNatUp, reduceCtorEq]) (by simp only [wx, wy, wz, stV, seval, IntWalk.iteOmega, IntWalk.toNatUp, reduceCtorEq])
                · have kv2 : -1152921504606846976 ≤ V ∧ V ≤ 1152921504606846976 := of_decide_eq_true kv
                  by_cases kf : fmtL V = l
                  · have kv' : -1152921504606846976 ≤ V ∧ V ≤ 1152921504606846976 ∧ fmtL V = l := ⟨kv2.1, kv2.2, kf⟩
                    rw [if_pos kv']
                    simp only [oV, Option.getD_some, Option.isSome_some]
                    simp only [sf_rprs, putAll, wx, wy, wz, stV, seval, IntWalk.iteOmega, IntWalk.toNatUp, reduceCtorEq, zl, yl, gl, hge, hx, eT, z0, y0, g, b46, e1]
                    refine st_call (c1) rfl (.inl rfl) ?_
                    simp only [z0, e2, wx, wy, wz, stV, seval, IntWalk.iteOmega, IntWalk.toNatUp, reduceCtorEq]
                    refine st_call (c2) rfl (.inl rfl) ?_
                    simp only [eq_false k3, bI64, mX, hV, wx, wy, wz, stV, seval, IntWalk.iteOmega, IntWalk.toNatUp, reduceCtorEq]
                    refine st_call (c3) rfl (.inl rfl) ?_
                    simp only [kv, wx, wy, wz, stV, seval, IntWalk.iteOmega, IntWalk.toNatUp, reduceCtorEq]
                    refine st_call (c4) rfl (.inl rfl) ?_
                    simp only [neqS, kf, decide_true, wx, wy, wz, stV, seval, IntWalk.iteOmega, IntWalk.toNatUp, reduceCtorEq]
                    exact ret_d2 (by simp only [wx, wy, wz, stV, seval, IntWalk.iteOmega, IntWalk.toNatUp, reduceCtorEq]) (by simp only [wx, wy, wz, stV, seval, IntWalk.iteOmega, IntWalk.toNatUp, reduceCtorEq])
                  · have kv' : ¬ (-1152921504606846976 ≤ V ∧ V ≤ 1152921504606846976 ∧ fmtL V = l) := fun h => kf h.2.2
                    rw [if_neg kv']
                    simp only [oV, Option.getD_none, Option.isSome_none]
                    simp only [sf_rprs, putAll, wx, wy, wz, stV, seval, IntWalk.iteOmega, IntWalk.toNatUp, reduceCtorEq, zl, yl, gl, hge, hx, eT, z0, y0, g, b46, e1]
                    refine st_call (c1) rfl (.inl rfl) ?_
                    simp only [z0, e2, wx, wy, wz, stV, seval, IntWalk.iteOmega, IntWalk.toNatUp, reduceCtorEq]
                    refine st_call (c2) rfl (.inl rfl) ?_
                    simp only [eq_false k3, bI64, mX, hV, wx, wy, wz, stV, seval, IntWalk.iteOmega, IntWalk.toNatUp, reduceCtorEq]
                    refine st_call (c3) rfl (.inl rfl) ?_
                    simp only [kv, wx, wy, wz, stV, seval, IntWalk.iteOmega, IntWalk.toNatUp, reduceCtorEq]
                    refine st_call (c4) rfl (.inl rfl) ?_
                    simp only [neqS, kf, decide_false, wx, wy, wz, stV, seval, IntWalk.iteOmega, IntWalk.toNatUp, reduceCtorEq]
                    exact ret_d2 (by simp only [wx, wy, wz, stV, seval, IntWalk.iteOmega, IntWalk.toNatUp, reduceCtorEq]) (by simp only [wx, wy, wz, stV, seval, IntWalk.iteOmega, IntWalk.toNatUp, reduceCtorEq])
        · have hU : prsU 1152921504606846976 t = none := by unfold prsU; rw [if_pos (.inr k2)]
          rw [hU]
          have b46 : (((t.getD (t.length - 8) 0).toNat : Int) = 46) = False := eq_false (fun h => k2 (UInt8.toNat_inj.1 (by show _ = 46; omega)))
          generalize t.getD (t.length - 8) 0 = x at *
          simp only [oV, Option.map_none, Option.getD_none, Option.isSome_none]
          simp only [sf_rprs, putAll, wx, wy, wz, stV, seval, IntWalk.iteOmega, IntWalk.toNatUp, reduceCtorEq, zl, yl, gl, hge, hx, eT, z0, y0, g, b46]
          exact ret_d2 (by simp only [wx, wy, wz, stV, seval, IntWalk.iteOmega, IntWalk.toNatUp, reduceCtorEq]) (by simp only [wx, wy, wz, stV, seval, IntWalk.iteOmega, IntWalk.toNatUp, reduceCtorEq])
end Go.Proofs.YtbpkkobhlbiclaaDoor
