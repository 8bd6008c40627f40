/- Layer 16: packet, as functions of numbers and bytes. Pure. Own work. -/
import Derived.Test.YtldcgjhfaledfaaPo1
set_option linter.unusedVariables false
set_option linter.unusedSimpArgs false
namespace Go.Proofs.Ytldcgjhfaledfaa
open Go.RowKit

/-! ### Numbers in bytes, there and back -/
theorem putL_snoc (v k : Nat) : putL v (k + 1) = putL (v / 256) k ++ [UInt8.ofNat v] := by
  unfold putL
  rw [List.range_succ, List.map_append]
  congr 1
  · apply List.map_congr_left
    intro i hi
    have hi' : i < k := List.mem_range.1 hi
    rw [show k + 1 - 1 - i = (k - 1 - i) + 1 by omega, Nat.pow_succ, Nat.mul_comm, ← Nat.div_div_eq_div_mul]
  · simp
theorem getN_one (a : List UInt8) (x : UInt8) : getN (a ++ [x]) = (getN a * 256 + x.toNat) % 18446744073709551616 := by simp [getN]
theorem pow_le8 {k : Nat} (h : k ≤ 8) : 256 ^ k ≤ 18446744073709551616 := Nat.le_trans (Nat.pow_le_pow_right (by decide) h) (by decide)
theorem get_put (k : Nat) (h : k ≤ 8) : ∀ v, getN (putL v k) = v % 256 ^ k := by
  induction k with
  | zero => intro v; rw [Nat.pow_zero, Nat.mod_one]; rfl
  | succ k ih =>
    intro v
    have hp := pow_le8 h
    have hv : v % 256 ^ (k + 1) < 256 ^ (k + 1) := Nat.mod_lt _ (Nat.pow_pos (by decide))
    have e : v % 256 ^ (k + 1) = v % 256 + 256 * (v / 256 % 256 ^ k) := by rw [Nat.pow_succ', Nat.mod_mul]
    rw [putL_snoc, getN_one, ih (by omega), UInt8.toNat_ofNat', Nat.mod_eq_of_lt (by omega)]
    omega
theorem getN_lt_pow : ∀ (k : Nat) (l : List UInt8), l.length = k → k ≤ 8 → getN l < 256 ^ k ∧ putL (getN l) k = l := by
  intro k
  induction k with
  | zero => intro l h _; rw [List.eq_nil_of_length_eq_zero h]; exact ⟨by decide, rfl⟩
  | succ k ih =>
    intro l h h8
    rcases List.eq_nil_or_concat l with rfl | ⟨a, x, rfl⟩
    · simp at h
    · rw [List.concat_eq_append] at *
      obtain ⟨a1, a2⟩ := ih a (by simpa using h) (by omega)
      have hx : x.toNat < 256 := x.toNat_lt
      have hp := pow_le8 h8
      have e : getN (a ++ [x]) = getN a * 256 + x.toNat := by
        rw [getN_one, Nat.mod_eq_of_lt]
        rw [Nat.pow_succ] at hp; omega
      refine ⟨by rw [e, Nat.pow_succ]; omega, ?_⟩
      rw [e, putL_snoc, show (getN a * 256 + x.toNat) / 256 = getN a by omega, a2]
      congr 2
      rw [← UInt8.toNat_inj, UInt8.toNat_ofNat']
      omega
theorem putget {l : List UInt8} {k : Nat} (h : l.length = k) (h8 : k ≤ 8) : putL (getN l) k = l := (getN_lt_pow k l h h8).2
/-! ### Headers -/
structure Hd where
  lp : Int
  vr : Int
  md : Int
  st : Int
  pl : Int
  pr : Int
  rd : Nat
  rp : Nat
  ri : Nat
  rf : Nat
  og : Nat
  rc : Nat
  tr : Nat
def Hd.z : Hd := ⟨0, 0, 0, 0, 0, 0, 0, 0, 0, 0, 0, 0, 0⟩
def hdR (h : Hd) : Prop := 0 ≤ h.lp ∧ h.lp ≤ 3 ∧ (h.vr = 3 ∨ h.vr = 4) ∧ 0 ≤ h.md ∧ h.md ≤ 7 ∧ 0 ≤ h.st ∧ h.st ≤ 255 ∧ -128 ≤ h.pl ∧ h.pl ≤ 127 ∧ -128 ≤ h.pr ∧ h.pr ≤ 127
instance (h : Hd) : Decidable (hdR h) := by unfold hdR; infer_instance
def hdOk (h : Hd) : Bool := decide (hdR h)
/-- The numbers are of their types. -/
def hdF (h : Hd) : Prop := h.rd < 4294967296 ∧ h.rp < 4294967296 ∧ h.ri < 4294967296 ∧ h.rf < 18446744073709551616 ∧ h.og < 18446744073709551616 ∧ h.rc < 18446744073709551616 ∧ h.tr < 18446744073709551616
def byZ (v : Int) : UInt8 := UInt8.ofNat (v % 256).toNat
def sgB8 (b : UInt8) : Int := if b.toNat > 127 then (b.toNat : Int) - 256 else (b.toNat : Int)
def hdT (h : Hd) : List UInt8 := putL h.rd 4 ++ (putL h.rp 4 ++ (putL h.ri 4 ++ (putL h.rf 8 ++ (putL h.og 8 ++ (putL h.rc 8 ++ putL h.tr 8)))))
def hdB (h : Hd) : List UInt8 := [byZ (h.lp * 64 + h.vr * 8 + h.md), byZ h.st, byZ h.pl, byZ h.pr] ++ hdT h
theorem hdT_len (h : Hd) : (hdT h).length = 44 := by simp [hdT, putL_length]
theorem hdB_len (h : Hd) : (hdB h).length = 48 := by unfold hdB; rw [List.length_append, hdT_len]; rfl
/-- The bytes from one place on. -/
def cutN (l : List UInt8) (a n : Nat) : List UInt8 := (l.drop a).take n
def hdG (l : List UInt8) : Hd := ⟨((l.getD 0 0).toNat / 64 : Nat), ((l.getD 0 0).toNat / 8 % 8 : Nat), ((l.getD 0 0).toNat % 8 : Nat), ((l.getD 1 0).toNat : Nat), sgB8 (l.getD 2 0), sgB8 (l.getD 3 0),
  getN (cutN l 4 4), getN (cutN l 8 4), getN (cutN l 12 4), getN (cutN l 16 8), getN (cutN l 24 8), getN (cutN l 32 8), getN (cutN l 40 8)⟩
theorem cutN_len {l : List UInt8} {a n : Nat} (h : a + n ≤ l.length) : (cutN l a n).length = n := by
  unfold cutN; rw [List.length_take, List.length_drop]; omega
theorem cutN_hit (p q r : List UInt8) : cutN (p ++ (q ++ r)) p.length q.length = q := by
  unfold cutN; rw [List.drop_left, List.take_left]
theorem cutN_all (l : List UInt8) (a n m : Nat) : cutN l a n ++ cutN l (a + n) m = cutN l a (n + m) := by
  unfold cutN
  rw [List.take_add, List.drop_drop]
theorem byZ_nat (v : Int) : ((byZ v).toNat : Int) = v % 256 := by
  unfold byZ
  rw [UInt8.toNat_ofNat']; omega
theorem byZ_of {b : UInt8} {v : Int} (h : (b.toNat : Int) = v % 256) : byZ v = b := by
  rw [← UInt8.toNat_inj]
  have := byZ_nat v
  omega
theorem sgB8_by {v : Int} (h1 : -128 ≤ v) (h2 : v ≤ 127) : sgB8 (byZ v) = v := by
  have := byZ_nat v
  unfold sgB8
  split <;> omega
theorem by_sgB8 (b : UInt8) : byZ (sgB8 b) = b := by
  have := b.toNat_lt
  apply byZ_of
  unfold sgB8
  split <;> omega
theorem sgB8_in (b : UInt8) : -128 ≤ sgB8 b ∧ sgB8 b ≤ 127 := by
  have := b.toNat_lt
  unfold sgB8
  split <;> omega
theorem hd_part (h : Hd) (r : List UInt8) : hdB h ++ r = ([byZ (h.lp * 64 + h.vr * 8 + h.md), byZ h.st, byZ h.pl, byZ h.pr] : List UInt8) ++ (putL h.rd 4 ++ (putL h.rp 4 ++ (putL h.ri 4 ++ (putL h.rf 8 ++ (putL h.og 8 ++ (putL h.rc 8 ++ (putL h.tr 8 ++ r))))))) := by
  unfold hdB hdT
  simp only [List.append_assoc]
theorem hd_cuts (h : Hd) (r : List UInt8) : cutN (hdB h ++ r) 4 4 = putL h.rd 4 ∧ cutN (hdB h ++ r) 8 4 = putL h.rp 4 ∧ cutN (hdB h ++ r) 12 4 = putL h.ri 4 ∧ cutN (hdB h ++ r) 16 8 = putL h.rf 8 ∧ cutN (hdB h ++ r) 24 8 = putL h.og 8 ∧ cutN (hdB h ++ r) 32 8 = putL h.rc 8 ∧ cutN (hdB h ++ r) 40 8 = putL h.tr 8 := by
  have key : ∀ (p q s : List UInt8) (a n : Nat), hdB h ++ r = p ++ (q ++ s) → p.length = a → q.length = n → cutN (hdB h ++ r) a n = q := by
    intro p q s a n e ha hn
    rw [e, ← ha, ← hn]; exact cutN_hit p q s
  have e := hd_part h r
  generalize ([byZ (h.lp * 64 + h.vr * 8 + h.md), byZ h.st, byZ h.pl, byZ h.pr] : List UInt8) = F at *
  have hF : F.length = 4 := by
    have := hdB_len h
    have e' := congrArg List.length e
    simp only [List.length_append, putL_length, this] at e'
    omega
  refine ⟨key F _ _ _ _ e hF (putL_length _ _), key (F ++ putL h.rd 4) _ _ _ _ (by rw [e]; simp only [List.append_assoc] <;> rfl) ?_ (putL_length _ _), key (F ++ putL h.rd 4 ++ putL h.rp 4) _ _ _ _ (by rw [e]; simp only [List.append_assoc] <;> rfl) ?_ (putL_length _ _),
    key (F ++ putL h.rd 4 ++ putL h.rp 4 ++ putL h.ri 4) _ _ _ _ (by rw [e]; simp only [List.append_assoc] <;> rfl) ?_ (putL_length _ _), key (F ++ putL h.rd 4 ++ putL h.rp 4 ++ putL h.ri 4 ++ putL h.rf 8) _ _ _ _ (by rw [e]; simp only [List.append_assoc] <;> rfl) ?_ (putL_length _ _),
    key (F ++ putL h.rd 4 ++ putL h.rp 4 ++ putL h.ri 4 ++ putL h.rf 8 ++ putL h.og 8) _ _ _ _ (by rw [e]; simp only [List.append_assoc] <;> rfl) ?_ (putL_length _ _), key (F ++ putL h.rd 4 ++ putL h.rp 4 ++ putL h.ri 4 ++ putL h.rf 8 ++ putL h.og 8 ++ putL h.rc 8) _ r _ _ (by rw [e]; simp only [List.append_assoc] <;> rfl) ?_ (putL_length _ _)⟩ <;>
    simp only [List.length_append, putL_length, hF]
/-- Decode undoes Encode, whatever follows. -/
theorem hd_back {h : Hd} (ok : hdR h) (fit : hdF h) (r : List UInt8) : hdG (hdB h ++ r) = h := by
  obtain ⟨c1, c2, c3, c4, c5, c6, c7⟩ := hd_cuts h r
  obtain ⟨f1, f2, f3, f4, f5, f6, f7⟩ := fit
  obtain ⟨o1, o2, o3, o4, o5, o6, o7, o8, o9, o10, o11⟩ := ok
  have g0 : (hdB h ++ r).getD 0 0 = byZ (h.lp * 64 + h.vr * 8 + h.md) := rfl
  have g1 : (hdB h ++ r).getD 1 0 = byZ h.st := rfl
  have g2 : (hdB h ++ r).getD 2 0 = byZ h.pl := rfl
  have g3 : (hdB h ++ r).getD 3 0 = byZ h.pr := rfl
  unfold hdG
  rw [c1, c2, c3, c4, c5, c6, c7, g0, g1, g2, g3, get_put 4 (by decide), get_put 4 (by decide), get_put 4 (by decide), get_put 8 (by decide), get_put 8 (by decide), get_put 8 (by decide), get_put 8 (by decide), sgB8_by o8 o9, sgB8_by o10 o11]
  have n0 := byZ_nat (h.lp * 64 + h.vr * 8 + h.md)
  have n1 := byZ_nat h.st
  obtain ⟨lp, vr, md, st, pl, pr, rd, rp, ri, rf, og, rc, tr⟩ := h
  simp only at *
  congr 1 <;> omega
/-- What is decoded is valid if its version is, and Encode of it is the beginning of the bytes. -/
theorem hd_read {l : List UInt8} (hl : 48 ≤ l.length) (hv : (hdG l).vr = 3 ∨ (hdG l).vr = 4) : hdR (hdG l) ∧ hdB (hdG l) = l.take 48 := by
  have b0 := (l.getD 0 0).toNat_lt
  have b1 := (l.getD 1 0).toNat_lt
  have s2 := sgB8_in (l.getD 2 0)
  have s3 := sgB8_in (l.getD 3 0)
  refine ⟨⟨?_, ?_, hv, ?_, ?_, ?_, ?_, s2.1, s2.2, s3.1, s3.2⟩, ?_⟩
  · show 0 ≤ (((l.getD 0 0).toNat / 64 : Nat) : Int); omega
  · show (((l.getD 0 0).toNat / 64 : Nat) : Int) ≤ 3; omega
  · show 0 ≤ (((l.getD 0 0).toNat % 8 : Nat) : Int); omega
  · show (((l.getD 0 0).toNat % 8 : Nat) : Int) ≤ 7; omega
  · show 0 ≤ ((l.getD 1 0).toNat : Int); omega
  · show ((l.getD 1 0).toNat : Int) ≤ 255; omega
  · have e0 : byZ ((hdG l).lp * 64 + (hdG l).vr * 8 + (hdG l).md) = l.getD 0 0 := by
      apply byZ_of
      show _ = ((((l.getD 0 0).toNat / 64 : Nat) : Int) * 64 + (((l.getD 0 0).toNat / 8 % 8 : Nat) : Int) * 8 + (((l.getD 0 0).toNat % 8 : Nat) : Int)) % 256
      omega
    have e1 : byZ (hdG l).st = l.getD 1 0 := by
      apply byZ_of
      show _ = ((l.getD 1 0).toNat : Int) % 256
      omega
    have e2 : byZ (hdG l).pl = l.getD 2 0 := by_sgB8 _
    have e3 : byZ (hdG l).pr = l.getD 3 0 := by_sgB8 _
    have t : hdT (hdG l) = cutN l 4 44 := by
      unfold hdT
      show putL (getN (cutN l 4 4)) 4 ++ (putL (getN (cutN l 8 4)) 4 ++ (putL (getN (cutN l 12 4)) 4 ++ (putL (getN (cutN l 16 8)) 8 ++ (putL (getN (cutN l 24 8)) 8 ++ (putL (getN (cutN l 32 8)) 8 ++ putL (getN (cutN l 40 8)) 8))))) = _
      rw [putget (cutN_len (by omega)) (by decide), putget (cutN_len (by omega)) (by decide), putget (cutN_len (by omega)) (by decide), putget (cutN_len (by omega)) (by decide), putget (cutN_len (by omega)) (by decide), putget (cutN_len (by omega)) (by decide), putget (cutN_len (by omega)) (by decide)]
      rw [cutN_all l 32 8 8, cutN_all l 24 8 16, cutN_all l 16 8 24, cutN_all l 12 4 32, cutN_all l 8 4 36, cutN_all l 4 4 40]
    unfold hdB
    rw [e0, e1, e2, e3, t]
    match l, hl with
    | a :: b :: c :: d :: r, _ => rfl
end Go.Proofs.Ytldcgjhfaledfaa
