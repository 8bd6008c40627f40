/- Layer 2 on data: the words of a block. Own work. -/
import Derived.Test.YtgepbpcolddgoaaPh1
set_option linter.unusedVariables false
set_option linter.unusedSimpArgs false
namespace Go.Proofs.Ytgepbpcolddgoaa
open Go.RowKit

theorem byteW_nat' (b : UInt8) : (byteW b).toNat = b.toNat := by have := byteW_nat b; omega
theorem shlW_byte (b : UInt8) (n : Nat) (hn : n ≤ 24) : (shlW (byteW b) n).toNat = 2 ^ n * b.toNat := by
  have hb := b.toNat_lt
  have h : (2 : Nat) ^ n ≤ 2 ^ 24 := Nat.pow_le_pow_right (by decide) hn
  have h2 : 2 ^ n * b.toNat ≤ 2 ^ 24 * 255 := Nat.mul_le_mul h (by omega)
  unfold shlW
  rw [byteW_nat', UInt32.toNat_ofNat_of_lt' (by rw [Nat.mul_comm]; simp only [UInt32.size]; omega), Nat.mul_comm]
theorem orW_nat (x y : UInt32) : (orW x y).toNat = x.toNat ||| y.toNat := UInt32.toNat_or x y
theorem wordAt_nat (b : List UInt8) (t : Nat) : (wordAt b t).toNat = ((((b.getD (4 * t) 0).toNat * 256 + (b.getD (4 * t + 1) 0).toNat) * 256 + (b.getD (4 * t + 2) 0).toNat) * 256 + (b.getD (4 * t + 3) 0).toNat) := by
  unfold wordAt
  generalize b.getD (4 * t) 0 = p
  generalize b.getD (4 * t + 1) 0 = q
  generalize b.getD (4 * t + 2) 0 = r
  generalize b.getD (4 * t + 3) 0 = s
  have hp := p.toNat_lt
  have hq := q.toNat_lt
  have hr := r.toNat_lt
  have hs := s.toNat_lt
  rw [orW_nat, orW_nat, orW_nat, shlW_byte _ _ (by decide), shlW_byte _ _ (by decide), shlW_byte _ _ (by decide), byteW_nat']
  have e1 := Nat.two_pow_add_eq_or_of_lt (i := 24) (b := 2 ^ 16 * q.toNat) (by omega) p.toNat
  rw [← e1]
  have e2 := Nat.two_pow_add_eq_or_of_lt (i := 16) (b := 2 ^ 8 * r.toNat) (by omega) (2 ^ 8 * p.toNat + q.toNat)
  have e3 : 2 ^ 24 * p.toNat + 2 ^ 16 * q.toNat = 2 ^ 16 * (2 ^ 8 * p.toNat + q.toNat) := by omega
  rw [e3, ← e2]
  have e4 := Nat.two_pow_add_eq_or_of_lt (i := 8) (b := s.toNat) (by omega) (2 ^ 8 * (2 ^ 8 * p.toNat + q.toNat) + r.toNat)
  have e5 : 2 ^ 16 * (2 ^ 8 * p.toNat + q.toNat) + 2 ^ 8 * r.toNat = 2 ^ 8 * (2 ^ 8 * (2 ^ 8 * p.toNat + q.toNat) + r.toNat) := by omega
  rw [e5, ← e4]
  omega
theorem four (b : List UInt8) (t : Nat) (h : 4 * t + 4 ≤ b.length) : (b.drop (4 * t)).take 4 = [b.getD (4 * t) 0, b.getD (4 * t + 1) 0, b.getD (4 * t + 2) 0, b.getD (4 * t + 3) 0] := by
  apply List.ext_getElem?
  intro j
  rw [List.getElem?_take, List.getElem?_drop]
  rcases j with _ | _ | _ | _ | j
  · simp [List.getD, List.getElem?_eq_getElem (show 4 * t < b.length by omega)]
  · simp [List.getD, List.getElem?_eq_getElem (show 4 * t + 1 < b.length by omega)]
  · simp [List.getD, List.getElem?_eq_getElem (show 4 * t + 2 < b.length by omega)]
  · simp [List.getD, List.getElem?_eq_getElem (show 4 * t + 3 < b.length by omega)]
  · rw [if_neg (by omega)]
    rfl
theorem getW (b : List UInt8) (t : Nat) (h : 4 * t + 4 ≤ b.length) : D.int .u32 (IntKind.u32.wrap (getN ((b.drop (4 * t)).take 4) : Int)) = wD (wordAt b t) := by
  have h1 := wordAt_nat b t
  rw [four b t h]
  unfold wD
  rw [h1]
  generalize b.getD (4 * t) 0 = p
  generalize b.getD (4 * t + 1) 0 = q
  generalize b.getD (4 * t + 2) 0 = r
  generalize b.getD (4 * t + 3) 0 = s
  have hp := p.toNat_lt
  have hq := q.toNat_lt
  have hr := r.toNat_lt
  have hs := s.toNat_lt
  have e : getN [p, q, r, s] = (((p.toNat * 256 + q.toNat) * 256 + r.toNat) * 256 + s.toNat) := by
    simp only [getN, List.foldl_cons, List.foldl_nil]
    omega
  rw [e, IntWalk.u32_in _ (by omega)]
theorem sched16_len (b : List UInt8) (n : Nat) : (sched16 b n).length = n := by simp [sched16]
theorem schedN_len (b : List UInt8) : ∀ n, (schedN b n).length = 16 + n
  | 0 => by simp [schedN, sched16_len]
  | n + 1 => by rw [schedN, List.length_append, schedN_len b n]; simp; omega
theorem set_next {α : Type} (l : List α) (z x : α) (n : Nat) (h : 0 < n) : (l ++ List.replicate n z).set l.length x = (l ++ [x]) ++ List.replicate (n - 1) z := by
  obtain ⟨k, rfl⟩ : ∃ k, n = k + 1 := ⟨n - 1, by omega⟩
  rw [List.set_append_right _ _ (Nat.le_refl _), Nat.sub_self, List.replicate_succ, List.set_cons_zero]
  simp
theorem get_of {l : List UInt32} {r : List UInt32} {i : Nat} (h : i < l.length) : (l ++ r)[i]? = some (l.getD i 0) := by
  rw [List.getElem?_append_left h]
  simp [h]
def spSt1 (b : List UInt8) (t : Nat) : St := ⟨ofL [(0, .w (.c (.d (.sl (b.map bD))))), (2, .w (.c (.pa 1 1))), (3, .w (.c (.pa 2 1))), (10, .w (.c (.d (.int .i64 (t : Int)))))], hL [(1, .row 1 ((List.replicate 64 (0 : UInt32)).map wD)), (2, .row 1 ((sched16 b t ++ List.replicate (64 - t) 0).map wD))], uL [1, 2]⟩
def spSt2 (b : List UInt8) (n : Nat) : St := ⟨ofL [(2, .w (.c (.pa 1 1))), (3, .w (.c (.pa 2 1))), (5, .w (.c (.d (.int .i64 ((16 + n : Nat) : Int)))))], hL [(1, .row 1 ((List.replicate 64 (0 : UInt32)).map wD)), (2, .row 1 ((schedN b n ++ List.replicate (48 - n) 0).map wD))], uL [1, 2]⟩
end Go.Proofs.Ytgepbpcolddgoaa
