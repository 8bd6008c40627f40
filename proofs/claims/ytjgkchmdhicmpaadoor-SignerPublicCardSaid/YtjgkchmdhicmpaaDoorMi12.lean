/- Texts of one's own, merged: from: The world of the laws: bytes of which one is changed. Own work. -/
import Derived.Test.YtjgkchmdhicmpaaDoorMi9
set_option linter.unusedVariables false
set_option linter.unusedSimpArgs false
namespace Go.Proofs.YtjgkchmdhicmpaaDoor
open Go.RowKit

def chgI (b : List UInt8) (at' : Int) : Nat := (withinN at' b.length).toNat
def chgB (by' : Int) : UInt8 := UInt8.ofNat (1 + (withinN by' 255).toNat)
def changedL (b : List UInt8) (at' by' : Int) : List UInt8 := b.set (chgI b at') (xorB (b.getD (chgI b at') 0) (chgB by'))
theorem changedL_len (b : List UInt8) (at' by' : Int) : (changedL b at' by').length = b.length := List.length_set
theorem chgB_ne (by' : Int) : chgB by' ≠ 0 := by
  have h := withinN_range by' 255 (by decide)
  intro e
  have := congrArg UInt8.toNat e
  unfold chgB at this
  rw [UInt8.toNat_ofNat_of_lt' (by simp [UInt8.size]; omega)] at this
  simp at this
theorem chgI_lt {b : List UInt8} (h : 0 < b.length) (at' : Int) : chgI b at' < b.length := by
  have := withinN_range at' b.length (by omega)
  unfold chgI; omega
theorem changedL_ne {b : List UInt8} (h : 0 < b.length) (at' by' : Int) : changedL b at' by' ≠ b := by
  intro e
  have hi := chgI_lt h at'
  have h1 := congrArg (fun l : List UInt8 => l.getD (chgI b at') 0) e
  simp only [changedL, List.getD_eq_getElem?_getD, List.getElem?_set_self hi, Option.getD_some] at h1
  apply chgB_ne by'
  generalize b[chgI b at']?.getD 0 = x at h1
  generalize chgB by' = y at h1
  have : xorB x (xorB x y) = xorB x x := by rw [h1]
  have e1 : xorB x (xorB x y) = y := by unfold xorB; rw [← UInt8.xor_assoc, UInt8.xor_self, UInt8.zero_xor]
  have e2 : xorB x x = 0 := by unfold xorB; exact UInt8.xor_self
  rw [← e1, this, e2]
def sf_chg : SFn := ⟨3, 25,
  .seq (.reg [⟨(some 6), .mv (.k (.c .nil)), none⟩])
  (.seq (.reg [⟨(some 8), .mv (.t 0), none⟩,
    ⟨(some 9), .bldSl false 1 1 (.sl []) [(0, (.t 8))], none⟩,
    ⟨(some 10), .call 41 [(.t 9)] (some (0, 1)), none⟩,
    ⟨(some 7), .mv (.t 10), none⟩])
  (.seq (.reg [⟨(some 11), .mv (.t 7), none⟩,
    ⟨(some 12), .mv (.t 1), none⟩,
    ⟨(some 13), .mv (.t 7), none⟩,
    ⟨(some 14), .len (.t 13), none⟩,
    ⟨(some 15), .call 24 [(.t 12), (.t 14)] none, none⟩,
    ⟨(some 16), .idxSl 1 (.t 11) (.t 15), none⟩,
    ⟨(some 17), .load .sc (.t 16), none⟩,
    ⟨(some 18), .mv (.t 2), none⟩,
    ⟨(some 19), .call 24 [(.t 18), (.k (.c (.d (.int .i64 255))))] none, none⟩,
    ⟨(some 20), .bin .add (.k (.c (.d (.int .i64 1)))) (.t 19), none⟩,
    ⟨(some 21), .conv .u8 (.t 20), none⟩,
    ⟨(some 22), .bin .xor (.t 17) (.t 21), none⟩,
    ⟨(some 23), .idxSl 1 (.t 11) (.t 15), none⟩,
    ⟨none, .store .sc (.t 23) (.t 22), none⟩])
  (.seq (.reg [⟨(some 24), .mv (.t 7), none⟩,
    ⟨(some 6), .mv (.t 24), none⟩])
  (.ret)))),
  [(6, none)]⟩
theorem cf_chg : compFn Tryd.prog { own := [10], comp := [], frz := [], nils := [] } Tryd.f29 = some sf_chg := by kernel_rfl
set_option maxHeartbeats 1600000 in
theorem chg_c (G : Glob) (b : List UInt8) (at' by' : Int) (h : 0 < b.length) (hb : b.length ≤ 140737488355328) : Den Tryd.prog G 29 [.sl (b.map bD), .int .i64 at', .int .i64 by'] (.w (.c (.fr 1 ((changedL b at' by').map bD)))) := by
  refine den_walk Tryd.func29 cf_chg rfl rfl ?_
  have hj := rjoin_c G [b] (by simp) (by simp; omega)
  have hf : [b].flatten = b := by simp
  rw [hf] at hj
  have hw := withinN_range at' b.length (by omega)
  have hw2 := withinN_range by' 255 (by decide)
  have hi := chgI_lt h at'
  have ei : ((chgI b at' : Nat) : Int) = withinN at' b.length := by unfold chgI; omega
  have eb : bD (chgB by') = .int .u8 (1 + withinN by' 255) := by
    unfold chgB
    rw [bD_ofNat (by omega)]
    congr 1; omega
  have g1 : b[chgI b at']? = some (b.getD (chgI b at') 0) := by rw [List.getD_eq_getElem?_getD, List.getElem?_eq_getElem hi]; rfl
  have x1 := binV_xorB (b.getD (chgI b at') 0) (chgB by')
  rw [eb] at x1
  have hs : b.set (chgI b at') (xorB (b.getD (chgI b at') 0) (chgB by')) = changedL b at' by' := rfl
  have e1 := within_c G at' b.length (by omega)
  have e2 := within_c G by' 255 (by decide)
  rw [← ei] at e1 hw
  generalize withinN by' 255 = y at *
  generalize chgI b at' = i at *
  simp only [sf_chg, putAll, wx, wy, wz, stV, seval, IntWalk.iteOmega, IntWalk.toNatUp, reduceCtorEq]
  refine st_call (hj) rfl (.inl rfl) ?_
  simp only [wx, wy, wz, stV, seval, IntWalk.iteOmega, IntWalk.toNatUp, reduceCtorEq]
  refine st_call (e1) rfl (.inl rfl) ?_
  simp only [get_map, g1, wx, wy, wz, stV, seval, IntWalk.iteOmega, IntWalk.toNatUp, reduceCtorEq]
  refine st_call (e2) rfl (.inl rfl) ?_
  simp only [x1, stO_bs hi (one_b _), set_bs, hs, wx, wy, wz, stV, seval, IntWalk.iteOmega, IntWalk.toNatUp, reduceCtorEq]
  exact ret_own (id := 80) (n := b.length) (s := 1) (by simp only [wx, stV, seval, IntWalk.iteOmega, IntWalk.toNatUp, reduceCtorEq]) (by simp only [wx, stV, seval, IntWalk.iteOmega, IntWalk.toNatUp, reduceCtorEq]) (by simp [changedL_len])
def sf_wkey : SFn := ⟨1, 5,
  .seq (.reg [⟨(some 2), .mv (.k (.c .nil)), none⟩])
  (.seq (.reg [⟨(some 3), .mv (.t 0), none⟩,
    ⟨(some 4), .call 27 [(.t 3), (.k (.c (.d (.int .i64 32))))] none, none⟩,
    ⟨(some 2), .mv (.t 4), none⟩])
  (.ret)),
  [(2, none)]⟩
theorem cf_wkey : compFn Tryd.prog { own := [], comp := [], frz := [], nils := [] } Tryd.f25 = some sf_wkey := by kernel_rfl
theorem wkey_c (G : Glob) (seed : Int) : Den Tryd.prog G 25 [.int .i64 seed] (.w (.c (.d (.sl ((bytesK seed 32).map bD))))) := by
  refine den_walk Tryd.func25 cf_wkey rfl rfl ?_
  simp only [sf_wkey, putAll, wx, wy, wz, stV, seval, IntWalk.iteOmega, IntWalk.toNatUp, reduceCtorEq]
  refine st_call (wbytes_c G seed 32 (by decide)) rfl (.inl rfl) ?_
  simp only [wx, wy, wz, stV, seval, IntWalk.iteOmega, IntWalk.toNatUp, reduceCtorEq]
  exact ret_d1 (by simp only [wx, wy, wz, stV, seval, IntWalk.iteOmega, IntWalk.toNatUp, reduceCtorEq])
end Go.Proofs.YtjgkchmdhicmpaaDoor
