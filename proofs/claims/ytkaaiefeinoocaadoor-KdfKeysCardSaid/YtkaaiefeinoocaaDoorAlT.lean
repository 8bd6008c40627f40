/- The plain logic (20): words of 32 bits. Own work. -/
import Derived.Test.YtkaaiefeinoocaaDoorAlS
import Derived.Laws.BitsLemmas
import Derived.Laws.Bits64
import Derived.Laws.BitsAllLaws
set_option linter.unusedVariables false
set_option linter.unusedSimpArgs false
namespace Go.Proofs.YtkaaiefeinoocaaDoor
open Go.RowKit

/-! ### The operations on words, each behind a name of its own (so that no simp opens it) -/
def xorW (x y : UInt32) : UInt32 := x ^^^ y
def andW (x y : UInt32) : UInt32 := x &&& y
def orW (x y : UInt32) : UInt32 := x ||| y
def addW (x y : UInt32) : UInt32 := x + y
def notW (x : UInt32) : UInt32 := UInt32.ofNat (4294967295 - x.toNat)
def shrW (x : UInt32) (n : Nat) : UInt32 := UInt32.ofNat (x.toNat / 2 ^ n)
def shlW (x : UInt32) (n : Nat) : UInt32 := UInt32.ofNat (x.toNat * 2 ^ n)
def rotW (x : UInt32) (n : Nat) : UInt32 := orW (shrW x n) (shlW x (32 - n))
def byteW (b : UInt8) : UInt32 := UInt32.ofNat b.toNat

theorem word_lt (x : UInt32) : x.toNat < 4294967296 := x.toNat_lt
theorem xorW_bits (x y : UInt32) : bits .xor .u32 (x.toNat : Int) (y.toNat : Int) = ((xorW x y).toNat : Int) := by
  rw [u32_xor_nat _ _ (word_lt x) (word_lt y)]; simp [xorW]
theorem andW_bits (x y : UInt32) : bits .and .u32 (x.toNat : Int) (y.toNat : Int) = ((andW x y).toNat : Int) := by
  rw [u32_and_nat _ _ (word_lt x) (word_lt y)]; simp [andW]
theorem orW_bits (x y : UInt32) : bits .or .u32 (x.toNat : Int) (y.toNat : Int) = ((orW x y).toNat : Int) := by
  rw [u32_or_nat _ _ (word_lt x) (word_lt y)]; simp [orW]
theorem addW_wrap (x y : UInt32) : IntKind.u32.wrap ((x.toNat : Int) + (y.toNat : Int)) = ((addW x y).toNat : Int) := by
  rw [IntKind.wrap_u32]; simp [addW]
theorem shrW_div (x : UInt32) (n : Nat) : (x.toNat : Int) / 2 ^ n = ((shrW x n).toNat : Int) := by
  have h : x.toNat / 2 ^ n < 4294967296 := Nat.lt_of_le_of_lt (Nat.div_le_self _ _) (word_lt x)
  unfold shrW
  rw [UInt32.toNat_ofNat_of_lt' (by simpa [UInt32.size] using h)]
  simp
theorem shlW_mul (x : UInt32) (n : Nat) : (x.toNat : Int) * 2 ^ n % 4294967296 = ((shlW x n).toNat : Int) := by
  unfold shlW
  simp
theorem notW_sub (x : UInt32) : (4294967295 : Int) - (x.toNat : Int) = ((notW x).toNat : Int) := by
  have h := word_lt x
  unfold notW
  rw [UInt32.toNat_ofNat_of_lt' (by simp [UInt32.size]; omega)]
  omega
theorem byteW_nat (b : UInt8) : (b.toNat : Int) = ((byteW b).toNat : Int) := by
  have h := b.toNat_lt
  unfold byteW
  rw [UInt32.toNat_ofNat_of_lt' (by simp [UInt32.size]; omega)]


/-! ### The walk's rules on words -/
theorem binV_xorW (x y : UInt32) : binV .xor (.w (.c (.d (wD x)))) (.w (.c (.d (wD y)))) = some (wD (xorW x y)) := by
  show binI .xor .u32 (x.toNat : Int) .u32 (y.toNat : Int) = _
  rw [binI_xor, xorW_bits]; rfl
theorem binV_andW (x y : UInt32) : binV .and (.w (.c (.d (wD x)))) (.w (.c (.d (wD y)))) = some (wD (andW x y)) := by
  show binI .and .u32 (x.toNat : Int) .u32 (y.toNat : Int) = _
  rw [binI_and, andW_bits]; rfl
theorem binV_orW (x y : UInt32) : binV .or (.w (.c (.d (wD x)))) (.w (.c (.d (wD y)))) = some (wD (orW x y)) := by
  show binI .or .u32 (x.toNat : Int) .u32 (y.toNat : Int) = _
  rw [binI_or, orW_bits]; rfl
theorem binV_addW (x y : UInt32) : binV .add (.w (.c (.d (wD x)))) (.w (.c (.d (wD y)))) = some (wD (addW x y)) := by
  show binI .add .u32 (x.toNat : Int) .u32 (y.toNat : Int) = _
  rw [binI_add, addW_wrap]; rfl
theorem binV_shlW (x : UInt32) (k : IntKind) (n : Int) (h : 0 ≤ n) : binV .shl (.w (.c (.d (wD x)))) (.w (.c (.d (.int k n)))) = some (wD (shlW x (min n.toNat 32))) := by
  show binI .shl .u32 (x.toNat : Int) k n = _
  rw [binI_shl _ _ _ _ h, IntKind.wrap_u32]
  show some (D.int .u32 ((x.toNat : Int) * 2 ^ min n.toNat 32 % 4294967296)) = _
  rw [shlW_mul]; rfl
theorem binV_shrW (x : UInt32) (k : IntKind) (n : Int) (h : 0 ≤ n) : binV .shr (.w (.c (.d (wD x)))) (.w (.c (.d (.int k n)))) = some (wD (shrW x (min n.toNat 32))) := by
  show binI .shr .u32 (x.toNat : Int) k n = _
  rw [binI_shr _ _ _ _ h]
  show some (D.int .u32 ((x.toNat : Int) / 2 ^ min n.toNat 32)) = _
  rw [shrW_div]; rfl
theorem unV_notW (x : UInt32) : unV .xor (.w (.c (.d (wD x)))) = some (wD (notW x)) := by
  have : bits .xor .u32 4294967295 (x.toNat : Int) = (4294967295 : Int) - (x.toNat : Int) := by
    have h := x.toNat_lt
    have h2 : 4294967295 ^^^ x.toNat = 4294967295 - x.toNat := by
      have e := congrArg BitVec.toNat (BitVec.allOnes_xor (x := BitVec.ofNat 32 x.toNat))
      rw [BitVec.toNat_xor, BitVec.toNat_not, BitVec.toNat_allOnes, BitVec.toNat_ofNat, Nat.mod_eq_of_lt (by omega)] at e
      omega
    have h3 := u32_xor_nat 4294967295 x.toNat (by decide) h
    rw [h2] at h3
    have h4 : ((4294967295 : Nat) : Int) = 4294967295 := rfl
    rw [h4] at h3
    omega
  show some (D.int .u32 (bits .xor .u32 4294967295 (x.toNat : Int))) = _
  rw [this, notW_sub]; rfl
theorem binV_eqlW (x y : UInt32) : binV .eql (.w (.c (.d (wD x)))) (.w (.c (.d (wD y)))) = some (.bool (x == y)) := by
  show binI .eql .u32 (x.toNat : Int) .u32 (y.toNat : Int) = _
  rw [binI_eql]
  by_cases h : x = y
  · subst h; simp
  · have : ¬ ((x.toNat : Int) = (y.toNat : Int)) := fun e => h (UInt32.toNat_inj.1 (by omega))
    simp [this, h]
theorem binV_neqW (x y : UInt32) : binV .neq (.w (.c (.d (wD x)))) (.w (.c (.d (wD y)))) = some (.bool (x != y)) := by
  show binI .neq .u32 (x.toNat : Int) .u32 (y.toNat : Int) = _
  rw [binI_neq]
  by_cases h : x = y
  · subst h; simp
  · have : ¬ ((x.toNat : Int) = (y.toNat : Int)) := fun e => h (UInt32.toNat_inj.1 (by omega))
    simp [this, h]
theorem byteW_wD (b : UInt8) : D.int .u32 (IntKind.u32.wrap (b.toNat : Int)) = wD (byteW b) := by
  have h := b.toNat_lt
  rw [IntWalk.u32_in _ (by omega), byteW_nat]; rfl
/-! ### Bytes, in the same way -/
def xorB (x y : UInt8) : UInt8 := x ^^^ y
def andB (x y : UInt8) : UInt8 := x &&& y
def orB (x y : UInt8) : UInt8 := x ||| y
def shlB (x : UInt8) (n : Nat) : UInt8 := UInt8.ofNat (x.toNat * 2 ^ n)
def shrB (x : UInt8) (n : Nat) : UInt8 := UInt8.ofNat (x.toNat / 2 ^ n)
theorem byte_lt (x : UInt8) : x.toNat < 256 := x.toNat_lt
theorem binV_xorB (x y : UInt8) : binV .xor (.w (.c (.d (bD x)))) (.w (.c (.d (bD y)))) = some (bD (xorB x y)) := by
  show binI .xor .u8 (x.toNat : Int) .u8 (y.toNat : Int) = _
  rw [binI_xor, u8_xor_nat _ _ (byte_lt x) (byte_lt y)]; simp [xorB, bD]
theorem binV_andB (x y : UInt8) : binV .and (.w (.c (.d (bD x)))) (.w (.c (.d (bD y)))) = some (bD (andB x y)) := by
  show binI .and .u8 (x.toNat : Int) .u8 (y.toNat : Int) = _
  rw [binI_and, u8_and_nat _ _ (byte_lt x) (byte_lt y)]; simp [andB, bD]
theorem binV_orB (x y : UInt8) : binV .or (.w (.c (.d (bD x)))) (.w (.c (.d (bD y)))) = some (bD (orB x y)) := by
  show binI .or .u8 (x.toNat : Int) .u8 (y.toNat : Int) = _
  rw [binI_or, u8_or_nat _ _ (byte_lt x) (byte_lt y)]; simp [orB, bD]
theorem binV_shlB (x : UInt8) (k : IntKind) (n : Int) (h : 0 ≤ n) : binV .shl (.w (.c (.d (bD x)))) (.w (.c (.d (.int k n)))) = some (bD (shlB x (min n.toNat 8))) := by
  show binI .shl .u8 (x.toNat : Int) k n = _
  rw [binI_shl _ _ _ _ h, IntKind.wrap_u8]
  show some (D.int .u8 ((x.toNat : Int) * 2 ^ min n.toNat 8 % 256)) = _
  have : (x.toNat : Int) * 2 ^ min n.toNat 8 % 256 = ((shlB x (min n.toNat 8)).toNat : Int) := by unfold shlB; simp
  rw [this]; rfl
theorem binV_shrB (x : UInt8) (k : IntKind) (n : Int) (h : 0 ≤ n) : binV .shr (.w (.c (.d (bD x)))) (.w (.c (.d (.int k n)))) = some (bD (shrB x (min n.toNat 8))) := by
  show binI .shr .u8 (x.toNat : Int) k n = _
  rw [binI_shr _ _ _ _ h]
  show some (D.int .u8 ((x.toNat : Int) / 2 ^ min n.toNat 8)) = _
  have : (x.toNat : Int) / 2 ^ min n.toNat 8 = ((shrB x (min n.toNat 8)).toNat : Int) := by
    have h : x.toNat / 2 ^ min n.toNat 8 < 256 := Nat.lt_of_le_of_lt (Nat.div_le_self _ _) (byte_lt x)
    unfold shrB
    rw [UInt8.toNat_ofNat_of_lt' (by simpa [UInt8.size] using h)]
    simp
  rw [this]; rfl
theorem binV_eqlB (x y : UInt8) : binV .eql (.w (.c (.d (bD x)))) (.w (.c (.d (bD y)))) = some (.bool (x == y)) := by
  show binI .eql .u8 (x.toNat : Int) .u8 (y.toNat : Int) = _
  rw [binI_eql]
  by_cases h : x = y
  · subst h; simp
  · have : ¬ ((x.toNat : Int) = (y.toNat : Int)) := fun e => h (UInt8.toNat_inj.1 (by omega))
    simp [this, h]
theorem binV_neqB (x y : UInt8) : binV .neq (.w (.c (.d (bD x)))) (.w (.c (.d (bD y)))) = some (.bool (x != y)) := by
  show binI .neq .u8 (x.toNat : Int) .u8 (y.toNat : Int) = _
  rw [binI_neq]
  by_cases h : x = y
  · subst h; simp
  · have : ¬ ((x.toNat : Int) = (y.toNat : Int)) := fun e => h (UInt8.toNat_inj.1 (by omega))
    simp [this, h]
end Go.Proofs.YtkaaiefeinoocaaDoor
