/- Layer 4: bytes as polynomials: products, the box, as functions. Own work. -/
import Derived.Test.YtnadfnnkdnakhaaAlT
set_option linter.unusedVariables false
set_option linter.unusedSimpArgs false
namespace Go.Proofs.Ytnadfnnkdnakhaa
open Go.RowKit

/-- A byte times x. -/
def xtB (x : UInt8) : UInt8 := xorB (shlB x 1) (if x < 128 then 0 else 27)
def selB (c : Bool) (v : UInt8) : UInt8 := if c then v else 0
def bitB (y : UInt8) (i : Nat) : Bool := y.toNat.testBit i
def xtN (x : UInt8) : Nat → UInt8
  | 0 => x
  | n + 1 => xtB (xtN x n)
def tmN (x y : UInt8) : Nat → UInt8
  | 0 => 0
  | n + 1 => xorB (tmN x y n) (selB (bitB y n) (xtN x n))
def timesK (x y : UInt8) : UInt8 := tmN x y 8

/-! ### What is linear -/
theorem xorB_comm (x y : UInt8) : xorB x y = xorB y x := UInt8.xor_comm x y
theorem xorB_assoc (x y z : UInt8) : xorB (xorB x y) z = xorB x (xorB y z) := UInt8.xor_assoc x y z
theorem xorB_zero (x : UInt8) : xorB x 0 = x := UInt8.xor_zero
theorem zero_xorB (x : UInt8) : xorB 0 x = x := UInt8.zero_xor
theorem xorB_self (x : UInt8) : xorB x x = 0 := UInt8.xor_self
theorem xorB_four (a b c d : UInt8) : xorB (xorB a b) (xorB c d) = xorB (xorB a c) (xorB b d) := by
  rw [xorB_assoc, ← xorB_assoc b, xorB_comm b c, xorB_assoc c, ← xorB_assoc]
def linB (f : UInt8 → UInt8) : Prop := ∀ a b, f (xorB a b) = xorB (f a) (f b)
theorem bitB_xor (x y : UInt8) (i : Nat) : bitB (xorB x y) i = (bitB x i ^^ bitB y i) := by
  unfold bitB xorB
  rw [UInt8.toNat_xor, Nat.testBit_xor]
theorem selB_xor (c d : Bool) (v : UInt8) : selB (c ^^ d) v = xorB (selB c v) (selB d v) := by
  cases c <;> cases d <;> simp [selB, xorB]
theorem selB_lin (c : Bool) : linB (selB c) := by
  intro a b; cases c <;> simp [selB, xorB]
/-- A byte's bits, and what a function says of them. -/
def sumB (f : UInt8 → UInt8) (x : UInt8) : Nat → UInt8
  | 0 => 0
  | n + 1 => xorB (sumB f x n) (selB (bitB x n) (f (UInt8.ofNat (2 ^ n))))
theorem sumB_lin (f : UInt8 → UInt8) : ∀ n, linB fun x => sumB f x n
  | 0 => fun a b => (xorB_self 0).symm
  | n + 1 => fun a b => by
    show xorB (sumB f (xorB a b) n) (selB (bitB (xorB a b) n) _) = _
    rw [show sumB f (xorB a b) n = xorB (sumB f a n) (sumB f b n) from sumB_lin f n a b, bitB_xor, selB_xor, xorB_four]
    rfl
theorem lin_of {f : UInt8 → UInt8} (h : ∀ x, f x = sumB f x 8) : linB f := by
  intro a b
  rw [h, h a, h b]
  exact sumB_lin f 8 a b
theorem all_b {p : UInt8 → Bool} (h : ((List.range 256).all fun i => p (UInt8.ofNat i)) = true) (x : UInt8) : p x = true := by
  have := List.all_eq_true.1 h x.toNat (List.mem_range.2 x.toNat_lt)
  simpa using this
theorem bits_all (x : UInt8) : x = sumB id x 8 := by
  have := all_b (p := fun x => x == sumB id x 8) (by decide +kernel) x
  simpa using this
theorem lin_zero {f : UInt8 → UInt8} (h : linB f) : f 0 = 0 := by
  have := h 0 0
  rw [xorB_self] at this
  rw [this]; exact xorB_self _
theorem lin_sel {f : UInt8 → UInt8} (h : linB f) (c : Bool) (v : UInt8) : f (selB c v) = selB c (f v) := by
  cases c
  · exact lin_zero h
  · rfl
theorem lin_sum {f : UInt8 → UInt8} (h : linB f) (x : UInt8) : ∀ n, f (sumB id x n) = sumB f x n
  | 0 => lin_zero h
  | n + 1 => by
    show f (xorB _ _) = xorB _ _
    rw [h, lin_sum h x n, lin_sel h]
    rfl
/-- Linear functions that agree on eight bytes agree. -/
theorem lin_ext {f g : UInt8 → UInt8} (hf : linB f) (hg : linB g) (h : ∀ n, n < 8 → f (UInt8.ofNat (2 ^ n)) = g (UInt8.ofNat (2 ^ n))) (x : UInt8) : f x = g x := by
  rw [bits_all x, lin_sum hf, lin_sum hg]
  have : ∀ m, m ≤ 8 → sumB f x m = sumB g x m := by
    intro m
    induction m with
    | zero => intro _; rfl
    | succ m ih =>
      intro hm
      show xorB _ _ = xorB _ _
      rw [ih (by omega), h m (by omega)]
  exact this 8 (Nat.le_refl _)
theorem lin_comp {f g : UInt8 → UInt8} (hf : linB f) (hg : linB g) : linB fun x => f (g x) := fun a b => by
  show f (g (xorB a b)) = xorB (f (g a)) (f (g b))
  rw [hg, hf]
theorem lin_xor {f g : UInt8 → UInt8} (hf : linB f) (hg : linB g) : linB fun x => xorB (f x) (g x) := fun a b => by
  show xorB (f (xorB a b)) (g (xorB a b)) = xorB (xorB (f a) (g a)) (xorB (f b) (g b))
  rw [hf, hg, xorB_four]

/-! ### Products -/
theorem xtB_lin : linB xtB := lin_of fun x => by
  have := all_b (p := fun x => xtB x == sumB xtB x 8) (by decide +kernel) x
  simpa using this
theorem xtN_lin : ∀ n, linB fun x => xtN x n
  | 0 => fun _ _ => rfl
  | n + 1 => lin_comp xtB_lin (xtN_lin n)
theorem tmN_lin1 (y : UInt8) : ∀ n, linB fun x => tmN x y n
  | 0 => fun a b => (xorB_self 0).symm
  | n + 1 => lin_xor (tmN_lin1 y n) (lin_comp (selB_lin _) (xtN_lin n))
theorem tmN_lin2 (x : UInt8) : ∀ n, linB fun y => tmN x y n
  | 0 => fun a b => (xorB_self 0).symm
  | n + 1 => fun a b => by
    show xorB (tmN x (xorB a b) n) (selB (bitB (xorB a b) n) _) = _
    rw [show tmN x (xorB a b) n = xorB (tmN x a n) (tmN x b n) from tmN_lin2 x n a b, bitB_xor, selB_xor, xorB_four]
    rfl
theorem times_lin1 (y : UInt8) : linB fun x => timesK x y := tmN_lin1 y 8
theorem times_lin2 (x : UInt8) : linB fun y => timesK x y := tmN_lin2 x 8
theorem times_comm (x y : UInt8) : timesK x y = timesK y x := by
  refine lin_ext (f := fun x => timesK x y) (g := fun x => timesK y x) (times_lin1 y) (times_lin2 y) (fun n hn => ?_) x
  have h : ((List.range 8).all fun n => (List.range 256).all fun i => timesK (UInt8.ofNat (2 ^ n)) (UInt8.ofNat i) == timesK (UInt8.ofNat i) (UInt8.ofNat (2 ^ n))) = true := by decide +kernel
  have h1 := all_b (p := fun y => timesK (UInt8.ofNat (2 ^ n)) y == timesK y (UInt8.ofNat (2 ^ n))) (List.all_eq_true.1 h n (List.mem_range.2 hn)) y
  simpa using h1
theorem times_assoc (x y z : UInt8) : timesK x (timesK y z) = timesK (timesK x y) z := by
  have h : ((List.range 8).all fun n => (List.range 8).all fun m => (List.range 8).all fun k => timesK (UInt8.ofNat (2 ^ n)) (timesK (UInt8.ofNat (2 ^ m)) (UInt8.ofNat (2 ^ k))) == timesK (timesK (UInt8.ofNat (2 ^ n)) (UInt8.ofNat (2 ^ m))) (UInt8.ofNat (2 ^ k))) = true := by decide +kernel
  refine lin_ext (f := fun x => timesK x (timesK y z)) (g := fun x => timesK (timesK x y) z) (times_lin1 _) (lin_comp (times_lin1 z) (times_lin1 y)) (fun n hn => ?_) x
  refine lin_ext (f := fun y => timesK (UInt8.ofNat (2 ^ n)) (timesK y z)) (g := fun y => timesK (timesK (UInt8.ofNat (2 ^ n)) y) z) (lin_comp (times_lin2 _) (times_lin1 z)) (lin_comp (times_lin1 z) (times_lin2 _)) (fun m hm => ?_) y
  refine lin_ext (f := fun z => timesK (UInt8.ofNat (2 ^ n)) (timesK (UInt8.ofNat (2 ^ m)) z)) (g := fun z => timesK (timesK (UInt8.ofNat (2 ^ n)) (UInt8.ofNat (2 ^ m))) z) (lin_comp (times_lin2 _) (times_lin2 _)) (times_lin2 _) (fun k hk => ?_) z
  have h1 := List.all_eq_true.1 (List.all_eq_true.1 (List.all_eq_true.1 h n (List.mem_range.2 hn)) m (List.mem_range.2 hm)) k (List.mem_range.2 hk)
  simpa using h1
theorem times_one (x : UInt8) : timesK 1 x = x := by
  have := all_b (p := fun x => timesK 1 x == x) (by decide +kernel) x
  simpa using this

/-! ### The box -/
def powB (x : UInt8) : Nat → UInt8
  | 0 => 1
  | n + 1 => timesK (powB x n) x
theorem powB_add (x : UInt8) (m : Nat) : ∀ n, powB x (m + n) = timesK (powB x m) (powB x n)
  | 0 => by rw [times_comm]; exact (times_one _).symm
  | n + 1 => by
    rw [← Nat.add_assoc, powB, powB, powB_add x m n, times_assoc]
def leftB (x : UInt8) (n : Nat) : UInt8 := orB (shlB x n) (shrB x (8 - n))
def affB (y : UInt8) : UInt8 := xorB (xorB (xorB (xorB (xorB y (leftB y 1)) (leftB y 2)) (leftB y 3)) (leftB y 4)) 99
def invB (x : UInt8) : UInt8 :=
  let x2 := timesK x x
  let x3 := timesK x2 x
  let x6 := timesK x3 x3
  let x12 := timesK x6 x6
  let x15 := timesK x12 x3
  let x30 := timesK x15 x15
  let x60 := timesK x30 x30
  let x120 := timesK x60 x60
  let x240 := timesK x120 x120
  timesK (timesK x240 x12) x2
theorem pow_254 (x : UInt8) : powB x 254 = invB x := by
  have e2 : powB x 2 = timesK x x := by
    show timesK (timesK 1 x) x = _
    rw [times_one]
  have e3 : powB x 3 = timesK (timesK x x) x := by show timesK (powB x 2) x = _; rw [e2]
  have e6 := powB_add x 3 3
  have e12 := powB_add x 6 6
  have e15 := powB_add x 12 3
  have e30 := powB_add x 15 15
  have e60 := powB_add x 30 30
  have e120 := powB_add x 60 60
  have e240 := powB_add x 120 120
  have e252 := powB_add x 240 12
  have e254 := powB_add x 252 2
  rw [e254, e252, e240, e120, e60, e30, e15, e12, e6, e3, e2]
  rfl
/-- The box as a table. -/
def boxL : List UInt8 := (List.range 256).map fun i => affB (invB (UInt8.ofNat i))
def subK (x : UInt8) : UInt8 := affB (invB x)
theorem boxL_len : boxL.length = 256 := by simp [boxL]
theorem boxL_get (x : UInt8) : boxL[x.toNat]? = some (subK x) := by
  unfold boxL subK
  rw [List.getElem?_map, List.getElem?_range x.toNat_lt]
  simp
def backL : List UInt8 := (List.range 256).map fun i => UInt8.ofNat (boxL.findIdx (· == UInt8.ofNat i))
theorem sub_back (x : UInt8) : backL.getD (subK x).toNat 0 = x := by
  have := all_b (p := fun x => backL.getD (subK x).toNat 0 == x) (by decide +kernel) x
  simpa using this
theorem sub_inj {x y : UInt8} (h : subK x = subK y) : x = y := by
  rw [← sub_back x, h, sub_back]
end Go.Proofs.Ytnadfnnkdnakhaa
