/- Layer 2 on data: turning words; the words before any block; the constants. Own work. -/
import Derived.Test.YtgepbpcolddgoaaDoorPh0
set_option linter.unusedVariables false
set_option linter.unusedSimpArgs false
namespace Go.Proofs.YtgepbpcolddgoaaDoor
open Go.RowKit

theorem orW_comm (x y : UInt32) : orW x y = orW y x := UInt32.or_comm x y
def sf_rturn : SFn := ⟨2, 15,
  .seq (.reg [⟨(some 4), .mv (.k (.c (.d (.int .u32 0)))), none⟩])
  (.seq (.reg [⟨(some 5), .mv (.t 0), none⟩,
    ⟨(some 6), .mv (.t 1), none⟩,
    ⟨(some 7), .conv .u64 (.t 6), none⟩,
    ⟨(some 8), .bin .shr (.t 5) (.t 7), none⟩,
    ⟨(some 9), .mv (.t 0), none⟩,
    ⟨(some 10), .mv (.t 1), none⟩,
    ⟨(some 11), .bin .sub (.k (.c (.d (.int .i64 32)))) (.t 10), none⟩,
    ⟨(some 12), .conv .u64 (.t 11), none⟩,
    ⟨(some 13), .bin .shl (.t 9) (.t 12), none⟩,
    ⟨(some 14), .bin .or (.t 8) (.t 13), none⟩,
    ⟨(some 4), .mv (.t 14), none⟩])
  (.ret)),
  [(4, none)]⟩
theorem cf_rturn : compFn Tryd.prog { own := [], comp := [], frz := [], nils := [] } Tryd.f47 = some sf_rturn := by kernel_rfl
theorem rturn_c (G : Glob) (x : UInt32) (n : Nat) (h0 : 0 < n) (hn : n < 32) : Den Tryd.prog G 47 [wD x, .int .i64 n] (.w (.c (.d (wD (rotW x n))))) := by
  refine den_walk Tryd.func47 cf_rturn rfl rfl ?_
  have e1 : IntKind.u64.wrap (n : Int) = (n : Int) := IntWalk.u64_in _ (by omega)
  have e2 : IntKind.i64.wrap (32 - (n : Int)) = ((32 - n : Nat) : Int) := by rw [IntWalk.i64_in _ (by omega)]; omega
  have e3 : IntKind.u64.wrap ((32 - n : Nat) : Int) = ((32 - n : Nat) : Int) := IntWalk.u64_in _ (by omega)
  simp only [sf_rturn, putAll, wx, stV, seval, IntWalk.iteOmega, IntWalk.toNatUp, reduceCtorEq, e1, e2, e3]
  exact ret_d (by simp only [wx, stV, seval, IntWalk.iteOmega, IntWalk.toNatUp, reduceCtorEq] <;> rfl)
def sf_rotl : SFn := ⟨2, 17,
  .seq (.reg [⟨(some 4), .mv (.k (.c (.d (.int .u32 0)))), none⟩])
  (.seq (.reg [⟨(some 6), .mv (.t 1), none⟩,
    ⟨(some 7), .conv .u64 (.t 6), none⟩,
    ⟨(some 8), .bin .and (.t 7) (.k (.c (.d (.int .u64 31)))), none⟩,
    ⟨(some 5), .mv (.t 8), none⟩])
  (.seq (.reg [⟨(some 9), .mv (.t 0), none⟩,
    ⟨(some 10), .mv (.t 5), none⟩,
    ⟨(some 11), .bin .shl (.t 9) (.t 10), none⟩,
    ⟨(some 12), .mv (.t 0), none⟩,
    ⟨(some 13), .mv (.t 5), none⟩,
    ⟨(some 14), .bin .sub (.k (.c (.d (.int .u64 32)))) (.t 13), none⟩,
    ⟨(some 15), .bin .shr (.t 12) (.t 14), none⟩,
    ⟨(some 16), .bin .or (.t 11) (.t 15), none⟩,
    ⟨(some 4), .mv (.t 16), none⟩])
  (.ret))),
  [(4, none)]⟩
theorem cf_rotl : compFn Tryd.prog { own := [], comp := [], frz := [], nils := [] } Tryd.f52 = some sf_rotl := by kernel_rfl
theorem rotl_c (G : Glob) (x : UInt32) (n : Nat) (h0 : 0 < n) (hn : n < 32) : Den Tryd.prog G 52 [wD x, .int .i64 (-(n : Int))] (.w (.c (.d (wD (rotW x n))))) := by
  refine den_walk Tryd.func52 cf_rotl rfl rfl ?_
  have e1 : bits .and .u64 (IntKind.u64.wrap (-(n : Int))) 31 = ((32 - n : Nat) : Int) := by
    have h := bits_mask .u64 64 (by decide) u64_in 5 (by decide) (IntKind.u64.wrap (-(n : Int))) (by rw [IntKind.wrap_u64]; omega) (by rw [IntKind.wrap_u64]; omega)
    rw [show (31 : Int) = 2 ^ 5 - 1 by decide, h, IntKind.wrap_u64]
    omega
  have e2 : IntKind.u64.wrap (32 - ((32 - n : Nat) : Int)) = ((n : Nat) : Int) := by rw [IntWalk.u64_in _ (by omega)]; omega
  simp only [sf_rotl, putAll, wx, stV, seval, IntWalk.iteOmega, IntWalk.toNatUp, reduceCtorEq, e1, e2]
  rw [orW_comm]
  exact ret_d (by simp only [wx, stV, seval, IntWalk.iteOmega, IntWalk.toNatUp, reduceCtorEq] <;> rfl)
def sf_turn : SFn := ⟨2, 9,
  .seq (.reg [⟨(some 4), .mv (.k (.c (.d (.int .u32 0)))), none⟩])
  (.seq (.reg [⟨(some 5), .mv (.t 0), none⟩,
    ⟨(some 6), .mv (.t 1), none⟩,
    ⟨(some 7), .un .neg (.t 6), none⟩,
    ⟨(some 8), .call 52 [(.t 5), (.t 7)] none, none⟩,
    ⟨(some 4), .mv (.t 8), none⟩])
  (.ret)),
  [(4, none)]⟩
theorem cf_turn : compFn Tryd.prog { own := [], comp := [], frz := [], nils := [] } Tryd.f50 = some sf_turn := by kernel_rfl
theorem turn_c (G : Glob) (x : UInt32) (n : Nat) (h0 : 0 < n) (hn : n < 32) : Den Tryd.prog G 50 [wD x, .int .i64 n] (.w (.c (.d (wD (rotW x n))))) := by
  refine den_walk Tryd.func50 cf_turn rfl rfl ?_
  have e1 : IntKind.i64.wrap (0 - (n : Int)) = -(n : Int) := by rw [IntWalk.i64_in _ (by omega)]; omega
  simp only [sf_turn, putAll, wx, stV, seval, IntWalk.iteOmega, IntWalk.toNatUp, reduceCtorEq, e1]
  refine st_call (rotl_c G x n h0 hn) rfl (.inr rfl) ?_
  simp only [wx, stV, seval, IntWalk.iteOmega, IntWalk.toNatUp, reduceCtorEq]
  exact ret_d (by simp only [wx, stV, seval, IntWalk.iteOmega, IntWalk.toNatUp, reduceCtorEq])
def sf_rfst : SFn := ⟨0, 2,
  .seq (.reg [⟨(some 0), .mv (.k (.c .nil)), none⟩])
  (.seq (.reg [⟨(some 1), .bldSl true 8 1 (.int .u32 0) [(0, (.k (.c (.d (.int .u32 1779033703))))), (1, (.k (.c (.d (.int .u32 3144134277))))), (2, (.k (.c (.d (.int .u32 1013904242))))), (3, (.k (.c (.d (.int .u32 2773480762))))), (4, (.k (.c (.d (.int .u32 1359893119))))), (5, (.k (.c (.d (.int .u32 2600822924))))), (6, (.k (.c (.d (.int .u32 528734635))))), (7, (.k (.c (.d (.int .u32 1541459225)))))], none⟩,
    ⟨(some 0), .mv (.t 1), none⟩])
  (.ret)),
  [(0, none)]⟩
theorem cf_rfst : compFn Tryd.prog { own := [1], comp := [], frz := [], nils := [] } Tryd.f41 = some sf_rfst := by kernel_rfl
theorem rfst_c (G : Glob) : Den Tryd.prog G 41 [] (.w (.c (.fr 1 (firstK.map wD)))) := by
  refine den_walk Tryd.func41 cf_rfst rfl rfl ?_
  simp only [sf_rfst, putAll, sx]
  refine optK_mk (.w (.c (.own 8 1 0 8)), upd hN 8 (some (.row 1 (firstK.map wD))), upd uN 8 true) (by kernel_rfl) ?_
  simp only [wx, stV, seval, IntWalk.iteOmega, IntWalk.toNatUp, reduceCtorEq]
  exact ret_own (id := 8) (n := 8) (s := 1) (by simp only [wx, stV, seval, IntWalk.iteOmega, IntWalk.toNatUp, reduceCtorEq]) (by simp only [wx, stV, seval, IntWalk.iteOmega, IntWalk.toNatUp, reduceCtorEq]) rfl
def sf_rcon : SFn := ⟨0, 2,
  .seq (.reg [⟨(some 0), .mv (.k (.c .nil)), none⟩])
  (.seq (.reg [⟨(some 1), .bldSl true 64 1 (.int .u32 0) [(0, (.k (.c (.d (.int .u32 1116352408))))), (1, (.k (.c (.d (.int .u32 1899447441))))), (2, (.k (.c (.d (.int .u32 3049323471))))), (3, (.k (.c (.d (.int .u32 3921009573))))), (4, (.k (.c (.d (.int .u32 961987163))))), (5, (.k (.c (.d (.int .u32 1508970993))))), (6, (.k (.c (.d (.int .u32 2453635748))))), (7, (.k (.c (.d (.int .u32 2870763221))))), (8, (.k (.c (.d (.int .u32 3624381080))))), (9, (.k (.c (.d (.int .u32 310598401))))), (10, (.k (.c (.d (.int .u32 607225278))))), (11, (.k (.c (.d (.int .u32 1426881987))))), (12, (.k (.c (.d (.int .u32 1925078388))))), (13, (.k (.c (.d (.int .u32 2162078206))))), (14, (.k (.c (.d (.int .u32 2614888103))))), (15, (.k (.c (.d (.int .u32 3248222580))))), (16, (.k (.c (.d (.int .u32 3835390401))))), (17, (.k (.c (.d (.int .u32 4022224774))))), (18, (.k (.c (.d (.int .u32 264347078))))), (19, (.k (.c (.d (.int .u32 604807628))))), (20, (.k (.c (.d (.int .u32 770255983))))), (21, (.k (.c (.d (.int .u32 1249150122))))), (22, (.k (.c (.d (.int .u32 1555081692))))), (23, (.k (.c (.d (.int .u32 1996064986))))), (24, (.k (.c (.d (.int .u32 2554220882))))), (25, (.k (.c (.d (.int .u32 2821834349))))), (26, (.k (.c (.d (.int .u32 2952996808))))), (27, (.k (.c (.d (.int .u32 3210313671))))), (28, (.k (.c (.d (.int .u32 3336571891))))), (29, (.k (.c (.d (.int .u32 3584528711))))), (30, (.k (.c (.d (.int .u32 113926993))))), (31, (.k (.c (.d (.int .u32 338241895))))), (32, (.k (.c (.d (.int .u32 666307205))))), (33, (.k (.c (.d (.int .u32 773529912))))), (34, (.k (.c (.d (.int .u32 1294757372))))), (35, (.k (.c (.d (.int .u32 1396182291))))), (36, (.k (.c (.d (.int .u32 1695183700))))), (37, (.k (.c (.d (.int .u32 1986661051))))), (38, (.k (.c (.d (.int .u32 2177026350))))), (39, (.k (.c (.d (.int .u32 2456956037))))), (40, (.k (.c (.d (.int .u32 2730485921))))), (41, (.k (.c (.d (.int .u32 2820302411))))), (42, (.k (.c (.d (.int .u32 3259730800))))), (43, (.k (.c (.d (.int .u32 3345764771))))), (44, (.k (.c (.d (.int .u32 3516065817))))), (45, (.k (.c (.d (.int .u32 3600352804))))), (46, (.k (.c (.d (.int .u32 4094571909))))), (47, (.k (.c (.d (.int .u32 275423344))))), (48, (.k (.c (.d (.int .u32 430227734))))), (49, (.k (.c (.d (.int .u32 506948616))))), (50, (.k (.c (.d (.int .u32 659060556))))), (51, (.k (.c (.d (.int .u32 883997877))))), (52, (.k (.c (.d (.int .u32 958139571))))), (53, (.k (.c (.d (.int .u32 1322822218))))), (54, (.k (.c (.d (.int .u32 1537002063))))), (55, (.k (.c (.d (.int .u32 1747873779))))), (56, (.k (.c (.d (.int .u32 1955562222))))), (57, (.k (.c (.d (.int .u32 2024104815))))), (58, (.k (.c (.d (.int .u32 2227730452))))), (59, (.k (.c (.d (.int .u32 2361852424))))), (60, (.k (.c (.d (.int .u32 2428436474))))), (61, (.k (.c (.d (.int .u32 2756734187))))), (62, (.k (.c (.d (.int .u32 3204031479))))), (63, (.k (.c (.d (.int .u32 3329325298)))))], none⟩,
    ⟨(some 0), .mv (.t 1), none⟩])
  (.ret)),
  [(0, none)]⟩
theorem cf_rcon : compFn Tryd.prog { own := [1], comp := [], frz := [], nils := [] } Tryd.f42 = some sf_rcon := by kernel_rfl
theorem rcon_c (G : Glob) : Den Tryd.prog G 42 [] (.w (.c (.fr 1 (constK.map wD)))) := by
  refine den_walk Tryd.func42 cf_rcon rfl rfl ?_
  simp only [sf_rcon, putAll, sx]
  refine optK_mk (.w (.c (.own 8 1 0 64)), upd hN 8 (some (.row 1 (constK.map wD))), upd uN 8 true) (by kernel_rfl) ?_
  simp only [wx, stV, seval, IntWalk.iteOmega, IntWalk.toNatUp, reduceCtorEq]
  exact ret_own (id := 8) (n := 64) (s := 1) (by simp only [wx, stV, seval, IntWalk.iteOmega, IntWalk.toNatUp, reduceCtorEq]) (by simp only [wx, stV, seval, IntWalk.iteOmega, IntWalk.toNatUp, reduceCtorEq]) rfl
end Go.Proofs.YtgepbpcolddgoaaDoor
