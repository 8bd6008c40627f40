/- Layer 7 on data: the program's trees. Own work. -/
import Derived.Test.YtalilcljonkmaaaDoorPt1
import Derived.Test.YtalilcljonkmaaaDoorPs1
import Derived.Test.YtalilcljonkmaaaDoorPh6
import Derived.Test.YtalilcljonkmaaaDoorPo2
set_option linter.unusedVariables false
set_option linter.unusedSimpArgs false
namespace Go.Proofs.YtalilcljonkmaaaDoor
open Go.RowKit

theorem sumH (G : Glob) (hF : G.at 0 = some (.ra (firstK.map wD))) (hG : G.at 1 = some (.ra (constK.map wD))) (b : List UInt8) (hb : b.length ≤ 140737488355328) : Den Tryd.prog G 44 [.sl (b.map bD)] (.w (.c (.fr 1 ((sumK b).map bD)))) := sum_c G hF hG b hb
theorem rsumH (G : Glob) (hF : G.at 0 = some (.ra (firstK.map wD))) (hG : G.at 1 = some (.ra (constK.map wD))) (b : List UInt8) (hb : b.length ≤ 140737488355328) : Den Tryd.prog G 34 [.sl (b.map bD)] (.w (.c (.fr 1 ((sumK b).map bD)))) := rsum_c G b hb
def sf_leaf : SFn := ⟨1, 8,
  .seq (.reg [⟨(some 2), .mv (.k (.c .nil)), none⟩])
  (.seq (.reg [⟨(some 3), .bldSl false 1 1 (.int .u8 0) [(0, (.k (.c (.d (.int .u8 0)))))], none⟩,
    ⟨(some 4), .mv (.t 0), none⟩,
    ⟨(some 5), .bldSl false 2 1 (.sl []) [(0, (.t 3)), (1, (.t 4))], none⟩,
    ⟨(some 6), .call 45 [(.t 5)] none, none⟩,
    ⟨(some 7), .call 44 [(.t 6)] (some (0, 1)), none⟩,
    ⟨(some 2), .mv (.t 7), none⟩])
  (.ret)),
  [(2, none)]⟩
theorem cf_leaf : compFn Tryd.prog { own := [7], comp := [], frz := [], nils := [] } Tryd.f20 = some sf_leaf := by kernel_rfl
theorem leaf_f (G : Glob) (hF : G.at 0 = some (.ra (firstK.map wD))) (hG : G.at 1 = some (.ra (constK.map wD))) (b : List UInt8) (hb : b.length ≤ 1000000000) : Den Tryd.prog G 20 [.sl (b.map bD)] (.w (.c (.fr 1 ((leafM b).map bD)))) := by
  refine den_walk Tryd.func20 cf_leaf rfl rfl ?_
  have hj := join_c G [[0], b] (by simp) (by simp; omega)
  have hf : [[0], b].flatten = 0 :: b := by simp
  rw [hf] at hj
  have hs := sumH G hF hG (0 :: b) (by simp; omega)
  have hm : sumK (0 :: b) = leafM b := rfl
  rw [hm] at hs
  simp only [sf_leaf, putAll, wx, wy, wz, stV, seval, IntWalk.iteOmega, IntWalk.toNatUp, reduceCtorEq]
  refine st_call (hj) rfl (.inl rfl) ?_
  simp only [wx, wy, wz, stV, seval, IntWalk.iteOmega, IntWalk.toNatUp, reduceCtorEq]
  refine st_call (hs) rfl (.inl rfl) ?_
  simp only [wx, wy, wz, stV, seval, IntWalk.iteOmega, IntWalk.toNatUp, reduceCtorEq]
  exact ret_f1 (by simp only [wx, wy, wz, stV, seval, IntWalk.iteOmega, IntWalk.toNatUp, reduceCtorEq])
theorem leaf_c (G : Glob) (hF : G.at 0 = some (.ra (firstK.map wD))) (hG : G.at 1 = some (.ra (constK.map wD))) (b : List UInt8) (hb : b.length ≤ 1000000000) : Den Tryd.prog G 20 [.sl (b.map bD)] (.w (.c (.d (.sl ((leafM b).map bD))))) := den_ro (leaf_f G hF hG b hb)
def sf_rleaf : SFn := ⟨1, 8,
  .seq (.reg [⟨(some 2), .mv (.k (.c .nil)), none⟩])
  (.seq (.reg [⟨(some 3), .bldSl false 1 1 (.int .u8 0) [(0, (.k (.c (.d (.int .u8 0)))))], none⟩,
    ⟨(some 4), .mv (.t 0), none⟩,
    ⟨(some 5), .bldSl false 2 1 (.sl []) [(0, (.t 3)), (1, (.t 4))], none⟩,
    ⟨(some 6), .call 35 [(.t 5)] none, none⟩,
    ⟨(some 7), .call 34 [(.t 6)] (some (0, 1)), none⟩,
    ⟨(some 2), .mv (.t 7), none⟩])
  (.ret)),
  [(2, none)]⟩
theorem cf_rleaf : compFn Tryd.prog { own := [7], comp := [], frz := [], nils := [] } Tryd.f21 = some sf_rleaf := by kernel_rfl
theorem rleaf_f (G : Glob) (hF : G.at 0 = some (.ra (firstK.map wD))) (hG : G.at 1 = some (.ra (constK.map wD))) (b : List UInt8) (hb : b.length ≤ 1000000000) : Den Tryd.prog G 21 [.sl (b.map bD)] (.w (.c (.fr 1 ((leafM b).map bD)))) := by
  refine den_walk Tryd.func21 cf_rleaf rfl rfl ?_
  have hj := rjoin_c G [[0], b] (by simp) (by simp; omega)
  have hf : [[0], b].flatten = 0 :: b := by simp
  rw [hf] at hj
  have hs := rsumH G hF hG (0 :: b) (by simp; omega)
  have hm : sumK (0 :: b) = leafM b := rfl
  rw [hm] at hs
  simp only [sf_rleaf, putAll, wx, wy, wz, stV, seval, IntWalk.iteOmega, IntWalk.toNatUp, reduceCtorEq]
  refine st_call (hj) rfl (.inl rfl) ?_
  simp only [wx, wy, wz, stV, seval, IntWalk.iteOmega, IntWalk.toNatUp, reduceCtorEq]
  refine st_call (hs) rfl (.inl rfl) ?_
  simp only [wx, wy, wz, stV, seval, IntWalk.iteOmega, IntWalk.toNatUp, reduceCtorEq]
  exact ret_f1 (by simp only [wx, wy, wz, stV, seval, IntWalk.iteOmega, IntWalk.toNatUp, reduceCtorEq])
theorem rleaf_c (G : Glob) (hF : G.at 0 = some (.ra (firstK.map wD))) (hG : G.at 1 = some (.ra (constK.map wD))) (b : List UInt8) (hb : b.length ≤ 1000000000) : Den Tryd.prog G 21 [.sl (b.map bD)] (.w (.c (.d (.sl ((leafM b).map bD))))) := den_ro (rleaf_f G hF hG b hb)
def sf_node : SFn := ⟨2, 11,
  .seq (.reg [⟨(some 4), .mv (.k (.c .nil)), none⟩])
  (.seq (.reg [⟨(some 5), .bldSl false 1 1 (.int .u8 0) [(0, (.k (.c (.d (.int .u8 1)))))], none⟩,
    ⟨(some 6), .mv (.t 0), none⟩,
    ⟨(some 7), .mv (.t 1), none⟩,
    ⟨(some 8), .bldSl false 3 1 (.sl []) [(0, (.t 5)), (1, (.t 6)), (2, (.t 7))], none⟩,
    ⟨(some 9), .call 45 [(.t 8)] none, none⟩,
    ⟨(some 10), .call 44 [(.t 9)] (some (0, 1)), none⟩,
    ⟨(some 4), .mv (.t 10), none⟩])
  (.ret)),
  [(4, none)]⟩
theorem cf_node : compFn Tryd.prog { own := [10], comp := [], frz := [], nils := [] } Tryd.f22 = some sf_node := by kernel_rfl
theorem node_f (G : Glob) (hF : G.at 0 = some (.ra (firstK.map wD))) (hG : G.at 1 = some (.ra (constK.map wD))) (l r : List UInt8) (hl : l.length ≤ 1000000000) (hr : r.length ≤ 1000000000) : Den Tryd.prog G 22 [.sl (l.map bD), .sl (r.map bD)] (.w (.c (.fr 1 ((nodeM l r).map bD)))) := by
  refine den_walk Tryd.func22 cf_node rfl rfl ?_
  have hj := join_c G [[1], l, r] (by simp) (by simp; omega)
  have hf : [[1], l, r].flatten = 1 :: (l ++ r) := by simp
  rw [hf] at hj
  have hs := sumH G hF hG (1 :: (l ++ r)) (by simp; omega)
  have hm : sumK (1 :: (l ++ r)) = nodeM l r := rfl
  rw [hm] at hs
  simp only [sf_node, putAll, wx, wy, wz, stV, seval, IntWalk.iteOmega, IntWalk.toNatUp, reduceCtorEq]
  refine st_call (hj) rfl (.inl rfl) ?_
  simp only [wx, wy, wz, stV, seval, IntWalk.iteOmega, IntWalk.toNatUp, reduceCtorEq]
  refine st_call (hs) rfl (.inl rfl) ?_
  simp only [wx, wy, wz, stV, seval, IntWalk.iteOmega, IntWalk.toNatUp, reduceCtorEq]
  exact ret_f1 (by simp only [wx, wy, wz, stV, seval, IntWalk.iteOmega, IntWalk.toNatUp, reduceCtorEq])
theorem node_c (G : Glob) (hF : G.at 0 = some (.ra (firstK.map wD))) (hG : G.at 1 = some (.ra (constK.map wD))) (l r : List UInt8) (hl : l.length ≤ 1000000000) (hr : r.length ≤ 1000000000) : Den Tryd.prog G 22 [.sl (l.map bD), .sl (r.map bD)] (.w (.c (.d (.sl ((nodeM l r).map bD))))) := den_ro (node_f G hF hG l r hl hr)
def sf_rnode : SFn := ⟨2, 11,
  .seq (.reg [⟨(some 4), .mv (.k (.c .nil)), none⟩])
  (.seq (.reg [⟨(some 5), .bldSl false 1 1 (.int .u8 0) [(0, (.k (.c (.d (.int .u8 1)))))], none⟩,
    ⟨(some 6), .mv (.t 0), none⟩,
    ⟨(some 7), .mv (.t 1), none⟩,
    ⟨(some 8), .bldSl false 3 1 (.sl []) [(0, (.t 5)), (1, (.t 6)), (2, (.t 7))], none⟩,
    ⟨(some 9), .call 35 [(.t 8)] none, none⟩,
    ⟨(some 10), .call 34 [(.t 9)] (some (0, 1)), none⟩,
    ⟨(some 4), .mv (.t 10), none⟩])
  (.ret)),
  [(4, none)]⟩
theorem cf_rnode : compFn Tryd.prog { own := [10], comp := [], frz := [], nils := [] } Tryd.f23 = some sf_rnode := by kernel_rfl
theorem rnode_f (G : Glob) (hF : G.at 0 = some (.ra (firstK.map wD))) (hG : G.at 1 = some (.ra (constK.map wD))) (l r : List UInt8) (hl : l.length ≤ 1000000000) (hr : r.length ≤ 1000000000) : Den Tryd.prog G 23 [.sl (l.map bD), .sl (r.map bD)] (.w (.c (.fr 1 ((nodeM l r).map bD)))) := by
  refine den_walk Tryd.func23 cf_rnode rfl rfl ?_
  have hj := rjoin_c G [[1], l, r] (by simp) (by simp; omega)
  have hf : [[1], l, r].flatten = 1 :: (l ++ r) := by simp
  rw [hf] at hj
  have hs := rsumH G hF hG (1 :: (l ++ r)) (by simp; omega)
  have hm : sumK (1 :: (l ++ r)) = nodeM l r := rfl
  rw [hm] at hs
  simp only [sf_rnode, putAll, wx, wy, wz, stV, seval, IntWalk.iteOmega, IntWalk.toNatUp, reduceCtorEq]
  refine st_call (hj) rfl (.inl rfl) ?_
  simp only [wx, wy, wz, stV, seval, IntWalk.iteOmega, IntWalk.toNatUp, reduceCtorEq]
  refine st_call (hs) rfl (.inl rfl) ?_
  simp only [wx, wy, wz, stV, seval, IntWalk.iteOmega, IntWalk.toNatUp, reduceCtorEq]
  exact ret_f1 (by simp only [wx, wy, wz, stV, seval, IntWalk.iteOmega, IntWalk.toNatUp, reduceCtorEq])
theorem rnode_c (G : Glob) (hF : G.at 0 = some (.ra (firstK.map wD))) (hG : G.at 1 = some (.ra (constK.map wD))) (l r : List UInt8) (hl : l.length ≤ 1000000000) (hr : r.length ≤ 1000000000) : Den Tryd.prog G 23 [.sl (l.map bD), .sl (r.map bD)] (.w (.c (.d (.sl ((nodeM l r).map bD))))) := den_ro (rnode_f G hF hG l r hl hr)
/-! ### The greatest power of two below a number -/
theorem log2_256 {x : Nat} (h : 256 ≤ x) : Nat.log2 x = Nat.log2 (x / 256) + 8 := by
  rw [Nat.log2_eq_iff (by omega)]
  have h1 := Nat.log2_self_le (n := x / 256) (by omega)
  have h2 := Nat.lt_log2_self (n := x / 256)
  generalize Nat.log2 (x / 256) = k at *
  have e1 : 2 ^ (k + 8) = 2 ^ k * 256 := by rw [Nat.pow_add]
  have e2 : 2 ^ (k + 8 + 1) = 2 ^ (k + 1) * 256 := by rw [show k + 8 + 1 = k + 1 + 8 by omega, Nat.pow_add]
  rw [e1, e2]
  omega
theorem log2_lt {x j : Nat} (h0 : 1 ≤ x) (h : x < 2 ^ j) : Nat.log2 x < j := by
  have h1 := Nat.log2_self_le (n := x) (by omega)
  exact (Nat.pow_lt_pow_iff_right (by decide)).1 (by omega : 2 ^ Nat.log2 x < 2 ^ j)
theorem bD_nat {k : Nat} (h : k < 256) : (UInt8.ofNat k).toNat = k := by rw [UInt8.toNat_ofNat_of_lt' (by simpa [UInt8.size] using h)]
def lit_len64_0 : ByteArray := ⟨#[0, 1, 2, 2, 3, 3, 3, 3, 4, 4, 4, 4, 4, 4, 4, 4, 5, 5, 5, 5, 5, 5, 5, 5, 5, 5, 5, 5, 5, 5, 5, 5, 6, 6, 6, 6, 6, 6, 6, 6, 6, 6, 6, 6, 6, 6, 6, 6, 6, 6, 6, 6, 6, 6, 6, 6, 6, 6, 6, 6, 6, 6, 6, 6, 7, 7, 7, 7, 7, 7, 7, 7, 7, 7, 7, 7, 7, 7, 7, 7, 7, 7, 7, 7, 7, 7, 7, 7, 7, 7, 7, 7, 7, 7, 7, 7, 7, 7, 7, 7, 7, 7, 7, 7, 7, 7, 7, 7, 7, 7, 7, 7, 7, 7, 7, 7, 7, 7, 7, 7, 7, 7, 7, 7, 7, 7, 7, 7, 8, 8, 8, 8, 8, 8, 8, 8, 8, 8, 8, 8, 8, 8, 8, 8, 8, 8, 8, 8, 8, 8, 8, 8, 8, 8, 8, 8, 8, 8, 8, 8, 8, 8, 8, 8, 8, 8, 8, 8, 8, 8, 8, 8, 8, 8, 8, 8, 8, 8, 8, 8, 8, 8, 8, 8, 8, 8, 8, 8, 8, 8, 8, 8, 8, 8, 8, 8, 8, 8, 8, 8, 8, 8, 8, 8, 8, 8, 8, 8, 8, 8, 8, 8, 8, 8, 8, 8, 8, 8, 8, 8, 8, 8, 8, 8, 8, 8, 8, 8, 8, 8, 8, 8, 8, 8, 8, 8, 8, 8, 8, 8, 8, 8, 8, 8, 8, 8, 8, 8, 8, 8, 8, 8, 8, 8, 8, 8]⟩
def sf_len64 : SFn := ⟨1, 25,
  .seq (.reg [⟨(some 2), .mv (.k (.c (.d (.int .i64 0)))), none⟩])
  (.seq (.seq (.reg [⟨(some 3), .mv (.t 0), none⟩,
    ⟨(some 4), .bin .geq (.t 3) (.k (.c (.d (.int .u64 4294967296)))), none⟩])
  (.cond (.t 4) (.seq (.reg [⟨(some 5), .mv (.t 0), none⟩,
     ⟨(some 6), .bin .shr (.t 5) (.k (.c (.d (.int .u64 32)))), none⟩,
     ⟨(some 0), .mv (.t 6), none⟩])
   (.reg [⟨(some 2), .mv (.k (.c (.d (.int .i64 32)))), none⟩]))
   (.skip)))
  (.seq (.seq (.reg [⟨(some 7), .mv (.t 0), none⟩,
    ⟨(some 8), .bin .geq (.t 7) (.k (.c (.d (.int .u64 65536)))), none⟩])
  (.cond (.t 8) (.seq (.reg [⟨(some 9), .mv (.t 0), none⟩,
     ⟨(some 10), .bin .shr (.t 9) (.k (.c (.d (.int .u64 16)))), none⟩,
     ⟨(some 0), .mv (.t 10), none⟩])
   (.reg [⟨(some 11), .mv (.t 2), none⟩,
     ⟨(some 12), .bin .add (.t 11) (.k (.c (.d (.int .i64 16)))), none⟩,
     ⟨(some 2), .mv (.t 12), none⟩]))
   (.skip)))
  (.seq (.seq (.reg [⟨(some 13), .mv (.t 0), none⟩,
    ⟨(some 14), .bin .geq (.t 13) (.k (.c (.d (.int .u64 256)))), none⟩])
  (.cond (.t 14) (.seq (.reg [⟨(some 15), .mv (.t 0), none⟩,
     ⟨(some 16), .bin .shr (.t 15) (.k (.c (.d (.int .u64 8)))), none⟩,
     ⟨(some 0), .mv (.t 16), none⟩])
   (.reg [⟨(some 17), .mv (.t 2), none⟩,
     ⟨(some 18), .bin .add (.t 17) (.k (.c (.d (.int .i64 8)))), none⟩,
     ⟨(some 2), .mv (.t 18), none⟩]))
   (.skip)))
  (.seq (.reg [⟨(some 19), .mv (.t 2), none⟩,
    ⟨(some 20), .mv (.t 0), none⟩,
    ⟨(some 21), .conv .u8 (.t 20), none⟩,
    ⟨(some 22), .idxStr (.k (.c (.d (.str lit_len64_0)))) (.t 21), none⟩,
    ⟨(some 23), .conv .i64 (.t 22), none⟩,
    ⟨(some 24), .bin .add (.t 19) (.t 23), none⟩,
    ⟨(some 2), .mv (.t 24), none⟩])
  (.ret))))),
  [(2, none)]⟩
theorem cf_len64 : compFn Tryd.prog { own := [], comp := [], frz := [], nils := [] } Tryd.f71 = some sf_len64 := by kernel_rfl
set_option maxRecDepth 100000 in
theorem len8_size : lit_len64_0.size = 256 := by rfl
set_option maxRecDepth 100000 in
theorem len8_get (j : Nat) (h0 : 1 ≤ j) (h : j < 256) : lit_len64_0.data.toList[j]? = some (UInt8.ofNat (Nat.log2 j + 1)) := by
  have : ∀ j : Fin 256, 1 ≤ j.val → lit_len64_0.data.toList[j.val]? = some (UInt8.ofNat (Nat.log2 j.val + 1)) := by decide +kernel
  exact this ⟨j, h⟩ h0
set_option maxRecDepth 100000 in
set_option maxHeartbeats 1600000 in
theorem len64_c (G : Glob) (x : Nat) (h0 : 1 ≤ x) (h : x < 65536) : Den Tryd.prog G 71 [.int .u64 (x : Int)] (.w (.c (.d (.int .i64 ((Nat.log2 x + 1 : Nat) : Int))))) := by
  refine den_walk Tryd.func71 cf_len64 rfl rfl ?_
  by_cases hx : x < 256
  · have hk := log2_lt (j := 8) h0 (by omega)
    have hg := len8_get x h0 hx
    have hb := bD_nat (k := Nat.log2 x + 1) (by omega)
    generalize Nat.log2 x = k at *
    simp only [sf_len64, putAll, wx, wy, wz, stV, seval, IntWalk.iteOmega, IntWalk.toNatUp, reduceCtorEq, len8_size, hg, bD, hb]
    exact ret_d1 (by simp only [wx, wy, wz, stV, seval, IntWalk.iteOmega, IntWalk.toNatUp, reduceCtorEq, Int.zero_add])
  · have e1 : (x : Int) / 256 = ((x / 256 : Nat) : Int) := rfl
    have hk := log2_lt (j := 8) (x := x / 256) (by omega) (by omega)
    have hg := len8_get (x / 256) (by omega) (by omega)
    have hb := bD_nat (k := Nat.log2 (x / 256) + 1) (by omega)
    rw [log2_256 (by omega)]
    have hd : x / 256 < 256 := by omega
    generalize Nat.log2 (x / 256) = k at *
    generalize x / 256 = y at *
    simp only [sf_len64, putAll, wx, wy, wz, stV, seval, IntWalk.iteOmega, IntWalk.toNatUp, reduceCtorEq, IntKind.bits, e1, len8_size, hg, bD, hb]
    exact ret_d1 (by simp only [wx, wy, wz, stV, seval, IntWalk.iteOmega, IntWalk.toNatUp, reduceCtorEq, show (8 : Int) + ((k : Int) + 1) = (k : Int) + 8 + 1 by omega])
def sf_len : SFn := ⟨1, 8,
  .seq (.reg [⟨(some 2), .mv (.k (.c (.d (.int .i64 0)))), none⟩])
  (.seq (.cond (.k (.c (.d (.bool false)))) (.seq (.reg [⟨(some 3), .mv (.t 0), none⟩,
     ⟨(some 4), .conv .u32 (.t 3), none⟩,
     ⟨(some 5), .call 70 [(.t 4)] none, none⟩,
     ⟨(some 2), .mv (.t 5), none⟩])
   (.ret))
   (.skip))
  (.seq (.reg [⟨(some 6), .mv (.t 0), none⟩,
    ⟨(some 7), .call 71 [(.t 6)] none, none⟩,
    ⟨(some 2), .mv (.t 7), none⟩])
  (.ret))),
  [(2, none)]⟩
theorem cf_len : compFn Tryd.prog { own := [], comp := [], frz := [], nils := [] } Tryd.f67 = some sf_len := by kernel_rfl
theorem len_c (G : Glob) (x : Nat) (h0 : 1 ≤ x) (h : x < 65536) : Den Tryd.prog G 67 [.int .u64 (x : Int)] (.w (.c (.d (.int .i64 ((Nat.log2 x + 1 : Nat) : Int))))) := by
  refine den_walk Tryd.func67 cf_len rfl rfl ?_
  simp only [sf_len, putAll, wx, wy, wz, stV, seval, IntWalk.iteOmega, IntWalk.toNatUp, reduceCtorEq]
  refine st_call (len64_c G x h0 h) rfl (.inl rfl) ?_
  simp only [wx, wy, wz, stV, seval, IntWalk.iteOmega, IntWalk.toNatUp, reduceCtorEq]
  exact ret_d1 (by simp only [wx, wy, wz, stV, seval, IntWalk.iteOmega, IntWalk.toNatUp, reduceCtorEq])
def sf_half : SFn := ⟨1, 9,
  .seq (.reg [⟨(some 2), .mv (.k (.c (.d (.int .i64 0)))), none⟩])
  (.seq (.reg [⟨(some 3), .mv (.t 0), none⟩,
    ⟨(some 4), .bin .sub (.t 3) (.k (.c (.d (.int .i64 1)))), none⟩,
    ⟨(some 5), .conv .u64 (.t 4), none⟩,
    ⟨(some 6), .call 67 [(.t 5)] none, none⟩,
    ⟨(some 7), .bin .sub (.t 6) (.k (.c (.d (.int .i64 1)))), none⟩,
    ⟨(some 8), .bin .shl (.k (.c (.d (.int .i64 1)))) (.t 7), none⟩,
    ⟨(some 2), .mv (.t 8), none⟩])
  (.ret)),
  [(2, none)]⟩
theorem cf_half : compFn Tryd.prog { own := [], comp := [], frz := [], nils := [] } Tryd.f61 = some sf_half := by kernel_rfl
set_option maxHeartbeats 1600000 in
theorem half_c (G : Glob) (n : Nat) (h0 : 2 ≤ n) (h : n ≤ 65536) : Den Tryd.prog G 61 [.int .i64 (n : Int)] (.w (.c (.d (.int .i64 ((splitN n : Nat) : Int))))) := by
  refine den_walk Tryd.func61 cf_half rfl rfl ?_
  have e1 : (n : Int) - 1 = ((n - 1 : Nat) : Int) := by omega
  have hk := log2_lt (j := 16) (x := n - 1) (by omega) (by omega)
  have hl := len_c G (n - 1) (by omega) (by omega)
  have hs : splitN n = 2 ^ Nat.log2 (n - 1) := rfl
  have hp : 2 ^ Nat.log2 (n - 1) ≤ 2 ^ 15 := Nat.pow_le_pow_right (by decide) (by omega)
  rw [hs]
  generalize n - 1 = m at *
  generalize Nat.log2 m = k at *
  have h2 : (2 : Int) ^ k = ((2 ^ k : Nat) : Int) := by simp
  have e4 : (k : Int) + 1 - 1 = (k : Int) := by omega
  simp only [sf_half, putAll, wx, wy, wz, stV, seval, IntWalk.iteOmega, IntWalk.toNatUp, reduceCtorEq, e1]
  refine st_call (hl) rfl (.inl rfl) ?_
  simp only [IntKind.bits, e4, Int.toNat_natCast, h2, Int.one_mul, wx, wy, wz, stV, seval, IntWalk.iteOmega, IntWalk.toNatUp, reduceCtorEq]
  exact ret_d1 (by simp only [wx, wy, wz, stV, seval, IntWalk.iteOmega, IntWalk.toNatUp, reduceCtorEq])
end Go.Proofs.YtalilcljonkmaaaDoor
