/- SHA-256's words and blocks, as functions of lists. Own work. -/
import Derived.Test.YtgepbpcolddgoaaDoorPo1
set_option linter.unusedVariables false
set_option linter.unusedSimpArgs false
namespace Go.Proofs.YtgepbpcolddgoaaDoor
open Go.RowKit

def firstK : List UInt32 := [0x6a09e667, 0xbb67ae85, 0x3c6ef372, 0xa54ff53a, 0x510e527f, 0x9b05688c, 0x1f83d9ab, 0x5be0cd19]
def constK : List UInt32 := [
  0x428a2f98, 0x71374491, 0xb5c0fbcf, 0xe9b5dba5, 0x3956c25b, 0x59f111f1, 0x923f82a4, 0xab1c5ed5,
  0xd807aa98, 0x12835b01, 0x243185be, 0x550c7dc3, 0x72be5d74, 0x80deb1fe, 0x9bdc06a7, 0xc19bf174,
  0xe49b69c1, 0xefbe4786, 0x0fc19dc6, 0x240ca1cc, 0x2de92c6f, 0x4a7484aa, 0x5cb0a9dc, 0x76f988da,
  0x983e5152, 0xa831c66d, 0xb00327c8, 0xbf597fc7, 0xc6e00bf3, 0xd5a79147, 0x06ca6351, 0x14292967,
  0x27b70a85, 0x2e1b2138, 0x4d2c6dfc, 0x53380d13, 0x650a7354, 0x766a0abb, 0x81c2c92e, 0x92722c85,
  0xa2bfe8a1, 0xa81a664b, 0xc24b8b70, 0xc76c51a3, 0xd192e819, 0xd6990624, 0xf40e3585, 0x106aa070,
  0x19a4c116, 0x1e376c08, 0x2748774c, 0x34b0bcb5, 0x391c0cb3, 0x4ed8aa4a, 0x5b9cca4f, 0x682e6ff3,
  0x748f82ee, 0x78a5636f, 0x84c87814, 0x8cc70208, 0x90befffa, 0xa4506ceb, 0xbef9a3f7, 0xc67178f2]
theorem firstK_len : firstK.length = 8 := rfl
theorem constK_len : constK.length = 64 := rfl

/-! ### A block -/
def wordAt (b : List UInt8) (t : Nat) : UInt32 :=
  orW (orW (orW (shlW (byteW (b.getD (4 * t) 0)) 24) (shlW (byteW (b.getD (4 * t + 1) 0)) 16)) (shlW (byteW (b.getD (4 * t + 2) 0)) 8)) (byteW (b.getD (4 * t + 3) 0))
def smallA (x : UInt32) : UInt32 := xorW (xorW (rotW x 7) (rotW x 18)) (shrW x 3)
def smallB (y : UInt32) : UInt32 := xorW (xorW (rotW y 17) (rotW y 19)) (shrW y 10)
def nextW (s : List UInt32) (t : Nat) : UInt32 :=
  addW (addW (addW (smallB (s.getD (t - 2) 0)) (s.getD (t - 7) 0)) (smallA (s.getD (t - 15) 0))) (s.getD (t - 16) 0)
def sched16 (b : List UInt8) (n : Nat) : List UInt32 := (List.range n).map (wordAt b)
/-- The schedule, n words behind the first 16. -/
def schedN (b : List UInt8) : Nat → List UInt32
  | 0 => sched16 b 16
  | n + 1 => schedN b n ++ [nextW (schedN b n) (16 + n)]
def sched (b : List UInt8) : List UInt32 := schedN b 48
theorem sched_at (b : List UInt8) (m : Nat) (h : m = 48) : sched b = schedN b m := by rw [h]; rfl
def bigE (e : UInt32) : UInt32 := xorW (xorW (rotW e 6) (rotW e 11)) (rotW e 25)
def bigA (a : UInt32) : UInt32 := xorW (xorW (rotW a 2) (rotW a 13)) (rotW a 22)
def chW (e f g : UInt32) : UInt32 := xorW (andW e f) (andW (notW e) g)
def majW (a b c : UInt32) : UInt32 := xorW (xorW (andW a b) (andW a c)) (andW b c)
structure Eight where
  (a b c d e f g h : UInt32)
def Eight.step (s : Eight) (k w : UInt32) : Eight :=
  let t1 := addW (addW (addW (addW s.h (bigE s.e)) (chW s.e s.f s.g)) k) w
  let t2 := addW (bigA s.a) (majW s.a s.b s.c)
  ⟨addW t1 t2, s.a, s.b, s.c, addW s.d t1, s.e, s.f, s.g⟩
def Eight.of (h : List UInt32) : Eight := ⟨h.getD 0 0, h.getD 1 0, h.getD 2 0, h.getD 3 0, h.getD 4 0, h.getD 5 0, h.getD 6 0, h.getD 7 0⟩
def Eight.rounds (s : Eight) (k w : List UInt32) : Nat → Eight
  | 0 => s
  | n + 1 => (s.rounds k w n).step (k.getD n 0) (w.getD n 0)
def Eight.sum (s : Eight) (h : List UInt32) : List UInt32 :=
  [addW (h.getD 0 0) s.a, addW (h.getD 1 0) s.b, addW (h.getD 2 0) s.c, addW (h.getD 3 0) s.d, addW (h.getD 4 0) s.e, addW (h.getD 5 0) s.f, addW (h.getD 6 0) s.g, addW (h.getD 7 0) s.h]
def blockK (h : List UInt32) (b : List UInt8) : List UInt32 := ((Eight.of h).rounds constK (sched b) 64).sum h
theorem blockK_len (h : List UInt32) (b : List UInt8) : (blockK h b).length = 8 := rfl

/-- "abc", padded, as one block: the hash that the standard gives. -/
def abcBlock : List UInt8 := [97, 98, 99, 128] ++ List.replicate 52 0 ++ [0, 0, 0, 0, 0, 0, 0, 24]
theorem abc_hash : blockK firstK abcBlock = [0xba7816bf, 0x8f01cfea, 0x414140de, 0x5dae2223, 0xb00361a3, 0x96177a9c, 0xb410ff61, 0xf20015ad] := by
  decide +kernel
end Go.Proofs.YtgepbpcolddgoaaDoor
