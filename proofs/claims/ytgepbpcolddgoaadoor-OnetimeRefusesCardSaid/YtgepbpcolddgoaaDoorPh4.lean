/- Layer 2 on data: hashes at once. Own work. -/
import Derived.Test.YtgepbpcolddgoaaDoorPh3
set_option linter.unusedVariables false
set_option linter.unusedSimpArgs false
namespace Go.Proofs.YtgepbpcolddgoaaDoor
open Go.RowKit

/-! ### SHA-256 of bytes -/
def foldB (h : List UInt32) (b : List UInt8) : Nat → List UInt32
  | 0 => h
  | n + 1 => blockK (foldB h b n) ((b.drop (64 * n)).take 64)
theorem foldB_len {h : List UInt32} (hh : h.length = 8) (b : List UInt8) : ∀ n, (foldB h b n).length = 8
  | 0 => hh
  | n + 1 => blockK_len _ _
def padK (rest : List UInt8) (count : Nat) : List UInt8 := rest ++ [128] ++ List.replicate ((119 - rest.length) % 64) 0 ++ putL (count * 8) 8
def wordsB (ws : List UInt32) : List UInt8 := ws.flatMap fun w => putL w.toNat 4
def finK (s : List UInt32) (rest : List UInt8) (count : Nat) : List UInt8 := wordsB (foldB s (padK rest count) ((padK rest count).length / 64))
def sumK (b : List UInt8) : List UInt8 := finK (foldB firstK b (b.length / 64)) (b.drop (64 * (b.length / 64))) b.length
def shortK (b : List UInt8) : List UInt8 := (sumK b).take 16
def chainK (b : List UInt8) : Nat → List UInt8
  | 0 => b
  | n + 1 => shortK (chainK b n)
theorem wordsB_len : ∀ ws : List UInt32, (wordsB ws).length = 4 * ws.length
  | [] => rfl
  | w :: ws => by
    have : wordsB (w :: ws) = putL w.toNat 4 ++ wordsB ws := rfl
    rw [this, List.length_append, putL_length, wordsB_len ws, List.length_cons]; omega
theorem finK_len {s : List UInt32} (hs : s.length = 8) (rest : List UInt8) (count : Nat) : (finK s rest count).length = 32 := by
  unfold finK
  rw [wordsB_len, foldB_len hs]
theorem sumK_len (b : List UInt8) : (sumK b).length = 32 := finK_len (foldB_len firstK_len _ _) _ _
theorem shortK_len (b : List UInt8) : (shortK b).length = 16 := by unfold shortK; rw [List.length_take, sumK_len]; rfl
theorem putL_zero (n : Nat) : putL 0 n = List.replicate n 0 := by
  unfold putL
  apply List.ext_getElem?
  intro i
  simp only [List.getElem?_map, List.getElem?_replicate, List.getElem?_range]
  by_cases h : i < n
  · simp [h, List.getElem?_range]
  · simp [h, List.getElem?_range]
theorem padK_len (rest : List UInt8) (count : Nat) (h : rest.length < 64) : (padK rest count).length = rest.length + 9 + (119 - rest.length) % 64 ∧ (padK rest count).length % 64 = 0 := by
  have : (padK rest count).length = rest.length + 9 + (119 - rest.length) % 64 := by simp [padK, putL_length]; omega
  exact ⟨this, by omega⟩
theorem wordsB_take (ws : List UInt32) (k : Nat) (h : k < ws.length) : wordsB (ws.take k) ++ putL (ws.getD k 0).toNat 4 = wordsB (ws.take (k + 1)) := by
  rw [List.take_succ_eq_append_getElem h]
  unfold wordsB
  rw [List.flatMap_append]
  simp [h]
theorem get_words {ws : List UInt32} {k : Nat} (h : k < ws.length) : ((ws.map wD).map C.d)[k]? = some (.d (wD (ws.getD k 0))) := by
  simp [h]
theorem drop_take_drop (b : List UInt8) (n : Nat) : (b.drop (64 * n)).drop 64 = b.drop (64 * (n + 1)) := by rw [List.drop_drop, Nat.mul_succ]

def bksSt (s : List UInt32) (b : List UInt8) (n : Nat) : St := ⟨ofL [(1, .w (.c (.d (.sl ((b.drop (64 * n)).map bD))))), (2, .w (.c (.pa 1 1))), (4, .w (.c (.pa 2 1))), (5, .w (.c .nil))], hL [(1, .row 1 ((foldB s b n).map wD)), (2, .row 1 ((List.replicate 8 (0 : UInt32)).map wD))], uL [1, 2]⟩
def lp_blocks_0 : SCode :=
  .seq (.seq (.reg [⟨(some 6), .mv (.t 1), none⟩,
    ⟨(some 7), .len (.t 6), none⟩,
    ⟨(some 8), .bin .geq (.t 7) (.k (.c (.d (.int .i64 64)))), none⟩])
  (.cond (.t 8) (.skip)
   (.exit 0)))
  (.block 1 (.seq (.reg [⟨(some 9), .load (.ag 8) (.t 2), none⟩,
     ⟨(some 10), .mv (.t 1), none⟩,
     ⟨(some 11), .slice 1 (.t 10) none (some (.k (.c (.d (.int .i64 64))))) none, none⟩,
     ⟨(some 12), .call 48 [(.t 9), (.t 11)] none, none⟩,
     ⟨none, .store (.ag 8) (.t 2) (.t 12), none⟩])
   (.reg [⟨(some 13), .mv (.t 1), none⟩,
     ⟨(some 14), .slice 1 (.t 13) (some (.k (.c (.d (.int .i64 64))))) none none, none⟩,
     ⟨(some 1), .mv (.t 14), none⟩])))
def sf_blocks : SFn := ⟨2, 17,
  .seq (.reg [⟨(some 2), .box .ownArr (.t 0), none⟩,
    ⟨(some 4), .allocArr [(.int .u32 0), (.int .u32 0), (.int .u32 0), (.int .u32 0), (.int .u32 0), (.int .u32 0), (.int .u32 0), (.int .u32 0)], none⟩,
    ⟨(some 5), .mv (.k (.c .nil)), none⟩])
  (.seq (.block 0 (.loop lp_blocks_0))
  (.seq (.reg [⟨(some 15), .load (.ag 8) (.t 2), none⟩,
    ⟨(some 16), .mv (.t 1), none⟩,
    ⟨none, .store (.ag 8) (.t 4) (.t 15), none⟩,
    ⟨(some 5), .mv (.t 16), none⟩])
  (.ret))),
  [(4, (some (.ag 8))), (5, none)]⟩
theorem cf_blocks : compFn Tryd.prog { own := [2], comp := [], frz := [], nils := [] } Tryd.f45 = some sf_blocks := by kernel_rfl
set_option maxHeartbeats 1600000 in
theorem blocks_c (G : Glob) (hG : G.at 1 = some (.ra (constK.map wD))) (s : List UInt32) (b : List UInt8) (hs : s.length = 8) (hb : b.length ≤ 140737488355328) : Den Tryd.prog G 45 [.agg (s.map wD), .sl (b.map bD)] (.tup [.c (.d (.agg ((foldB s b (b.length / 64)).map wD))), .c (.d (.sl ((b.drop (64 * (b.length / 64))).map bD)))]) := by
  refine den_walk Tryd.func45 cf_blocks rfl rfl ?_
  simp only [sf_blocks, putAll, wx, stV, seval, IntWalk.iteOmega, IntWalk.toNatUp, reduceCtorEq]
  refine loop_st (bksSt s b) (fun n => b.length / 64 - n) (fun n => n ≤ b.length / 64) 0 (Nat.zero_le _) ?_ ?_
  · refine ent_l (fun i => match i with | 1 => 16 | _ => 32) ?_ ?_ rfl rfl <;> simp only [wx, wex, stV, seval, IntWalk.iteOmega, IntWalk.toNatUp, reduceCtorEq, bksSt, foldB]
    rfl
  · intro n hn
    have hl := foldB_len hs b n
    by_cases hlt : n < b.length / 64
    · have h1 : (64 : Int) ≤ ((b.drop (64 * n)).length : Int) := by rw [List.length_drop]; omega
      have h2 : ((b.drop (64 * n)).take 64).length = 64 := by rw [List.length_take, List.length_drop]; omega
      have e1 := drop_take_drop b n
      simp only [lp_blocks_0, bksSt, wx, stV, seval, IntWalk.iteOmega, IntWalk.toNatUp, reduceCtorEq, hl, h1]
      refine st_call (block_c G hG (foldB s b n) ((b.drop (64 * n)).take 64) hl h2) rfl (.inl rfl) ?_
      have e2 : (blockK (foldB s b n) ((b.drop (64 * n)).take 64)).length = 8 := blockK_len _ _
      have e3 : (b.drop (64 * n)).length - 64 = ((b.drop (64 * (n + 1)))).length := by rw [List.length_drop, List.length_drop]; omega
      simp only [wx, stV, seval, IntWalk.iteOmega, IntWalk.toNatUp, reduceCtorEq, hl, e2, e1, e3]
      refine lop_next (n + 1) (by omega) (by omega) (ent_l id ?_ ?_ rfl rfl) <;> simp only [wx, wex, stV, seval, IntWalk.iteOmega, IntWalk.toNatUp, reduceCtorEq, foldB]
    · obtain rfl : n = b.length / 64 := by omega
      have h1 : ¬ (64 : Int) ≤ ((b.drop (64 * (b.length / 64))).length : Int) := by rw [List.length_drop]; omega
      simp only [lp_blocks_0, bksSt, wx, stV, seval, IntWalk.iteOmega, IntWalk.toNatUp, reduceCtorEq, hl, h1]
      exact ret_d2 (by simp only [wx, stV, seval, IntWalk.iteOmega, IntWalk.toNatUp, reduceCtorEq, hl]) (by simp only [wx, stV, seval, IntWalk.iteOmega, IntWalk.toNatUp, reduceCtorEq])

def finSt (ws : List UInt32) (k : Nat) : St := ⟨ofL [(9, .w (.c (.own 1 1 0 (wordsB (ws.take k)).length))), (36, .w (.c (.d (.agg (ws.map wD))))), (37, .w (.c (.d (.int .i64 (k : Int)))))], hL [(1, .row 1 ((wordsB (ws.take k)).map bD))], uL [1]⟩
def lp_fin_0 : SCode :=
  .seq (.reg [⟨(some 38), .bin .lss (.t 37) (.k (.c (.d (.int .i64 8)))), none⟩])
  (.seq (.cond (.t 38) (.skip)
   (.exit 0))
  (.seq (.block 1 (.seq (.reg [⟨(some 39), .idxArr 1 8 .sc (.t 36) (.t 37), none⟩,
     ⟨(some 11), .mv (.t 39), none⟩])
   (.reg [⟨(some 40), .mv (.t 9), none⟩,
     ⟨(some 41), .mv (.t 11), none⟩,
     ⟨(some 42), .conv .u64 (.t 41), none⟩,
     ⟨(some 43), .call 28 [(.t 42), (.k (.c (.d (.int .i64 4))))] none, none⟩,
     ⟨(some 44), .app false 1 1 (.t 40) (.t 43), none⟩,
     ⟨(some 9), .mv (.t 44), none⟩])))
  (.reg [⟨(some 45), .bin .add (.t 37) (.k (.c (.d (.int .i64 1)))), none⟩,
    ⟨(some 37), .mv (.t 45), none⟩])))
def sf_fin : SFn := ⟨3, 47,
  .seq (.reg [⟨(some 3), .box .ownArr (.t 0), none⟩,
    ⟨(some 6), .mv (.k (.c .nil)), none⟩])
  (.seq (.reg [⟨(some 12), .bldSl false 1 1 (.int .u8 0) [(0, (.k (.c (.d (.int .u8 128)))))], none⟩,
    ⟨(some 7), .mv (.t 12), none⟩])
  (.seq (.reg [⟨(some 13), .mv (.t 7), none⟩,
    ⟨(some 14), .len (.t 13), none⟩,
    ⟨(some 15), .bin .sub (.k (.c (.d (.int .i64 120)))) (.t 14), none⟩,
    ⟨(some 16), .mv (.t 1), none⟩,
    ⟨(some 17), .len (.t 16), none⟩,
    ⟨(some 18), .bin .sub (.t 15) (.t 17), none⟩,
    ⟨(some 19), .bin .rem (.t 18) (.k (.c (.d (.int .i64 64)))), none⟩,
    ⟨(some 8), .mv (.t 19), none⟩])
  (.seq (.reg [⟨(some 21), .load (.ag 8) (.t 3), none⟩,
    ⟨(some 22), .mv (.t 1), none⟩,
    ⟨(some 23), .mv (.t 7), none⟩,
    ⟨(some 24), .mv (.t 8), none⟩,
    ⟨(some 25), .call 28 [(.k (.c (.d (.int .u64 0)))), (.t 24)] none, none⟩,
    ⟨(some 26), .mv (.t 2), none⟩,
    ⟨(some 27), .conv .u64 (.t 26), none⟩,
    ⟨(some 28), .bin .mul (.t 27) (.k (.c (.d (.int .u64 8)))), none⟩,
    ⟨(some 29), .call 28 [(.t 28), (.k (.c (.d (.int .i64 8))))] none, none⟩,
    ⟨(some 30), .bldSl false 4 1 (.sl []) [(0, (.t 22)), (1, (.t 23)), (2, (.t 25)), (3, (.t 29))], none⟩,
    ⟨(some 31), .call 39 [(.t 30)] none, none⟩,
    ⟨(some 32), .call 45 [(.t 21), (.t 31)] none, none⟩,
    ⟨(some 20), .mv (.t 32), none⟩,
    ⟨(some 33), .extract (.t 20) 0, none⟩,
    ⟨(some 34), .extract (.t 20) 1, none⟩,
    ⟨none, .store (.ag 8) (.t 3) (.t 33), none⟩])
  (.seq (.reg [⟨(some 35), .make 1 1 (.int .u8 0) (.k (.c (.d (.int .i64 0)))) (.k (.c (.d (.int .i64 32)))), none⟩,
    ⟨(some 9), .mv (.t 35), none⟩])
  (.seq (.seq (.reg [⟨(some 36), .load (.ag 8) (.t 3), none⟩,
    ⟨(some 37), .mv (.k (.c (.d (.int .i64 0)))), none⟩])
  (.block 0 (.loop lp_fin_0)))
  (.seq (.reg [⟨(some 46), .mv (.t 9), none⟩,
    ⟨(some 6), .mv (.t 46), none⟩])
  (.ret))))))),
  [(6, none)]⟩
theorem cf_fin : compFn Tryd.prog { own := [3], comp := [], frz := [], nils := [] } Tryd.f46 = some sf_fin := by kernel_rfl
set_option maxHeartbeats 1600000 in
theorem fin_c (G : Glob) (hG : G.at 1 = some (.ra (constK.map wD))) (s : List UInt32) (rest : List UInt8) (count : Nat) (hs : s.length = 8) (hr : rest.length < 64) (hc : count ≤ 140737488355328) : Den Tryd.prog G 46 [.agg (s.map wD), .sl (rest.map bD), .int .i64 (count : Int)] (.w (.c (.fr 1 ((finK s rest count).map bD)))) := by
  refine den_walk Tryd.func46 cf_fin rfl rfl ?_
  have e3 : (119 - (rest.length : Int)).tmod 64 = (((119 - rest.length) % 64 : Nat) : Int) := by
    rw [show (119 - (rest.length : Int)) = ((119 - rest.length : Nat) : Int) by omega]; rfl
  simp only [sf_fin, putAll, wx, wy, wz, stV, seval, IntWalk.iteOmega, IntWalk.toNatUp, reduceCtorEq, hs, e3]
  have hz : (119 - rest.length) % 64 ≤ 64 := by omega
  refine st_call (put_in G 0 ((119 - rest.length) % 64) hz) rfl (.inl rfl) ?_
  simp only [wx, wy, wz, stV, seval, IntWalk.iteOmega, IntWalk.toNatUp, reduceCtorEq]
  refine st_call (put_in G (count * 8) 8 (by decide)) ?_ (.inl rfl) ?_
  · simp only [wx, wy, wz, stV, seval, IntWalk.iteOmega, IntWalk.toNatUp, reduceCtorEq]
  obtain ⟨hp1, hp2⟩ := padK_len rest count hr
  have hp : [rest, [128], putL 0 ((119 - rest.length) % 64), putL (count * 8) 8].flatten = padK rest count := by
    rw [putL_zero]; simp [padK]
  have hj := join_c G [rest, [128], putL 0 ((119 - rest.length) % 64), putL (count * 8) 8] (by simp) (by rw [hp, hp1]; omega)
  rw [hp] at hj
  simp only [wx, wy, wz, stV, seval, IntWalk.iteOmega, IntWalk.toNatUp, reduceCtorEq]
  refine st_call hj rfl (.inl rfl) ?_
  simp only [wx, wy, wz, stV, seval, IntWalk.iteOmega, IntWalk.toNatUp, reduceCtorEq]
  refine st_call (blocks_c G hG s (padK rest count) hs (by rw [hp1]; omega)) rfl (.inl rfl) ?_
  have hw : (foldB s (padK rest count) ((padK rest count).length / 64)).length = 8 := foldB_len hs _ _
  have hf : finK s rest count = wordsB (foldB s (padK rest count) ((padK rest count).length / 64)) := rfl
  rw [hf]
  generalize foldB s (padK rest count) ((padK rest count).length / 64) = ws at hw
  simp only [wx, wy, wz, stV, seval, IntWalk.iteOmega, IntWalk.toNatUp, reduceCtorEq, hs, hw]
  refine loop_st (finSt ws) (fun k => 8 - k) (fun k => k ≤ 8) 0 (Nat.zero_le _) ?_ ?_
  · refine ent_l (fun _ => 280) ?_ ?_ rfl rfl <;> simp only [wx, wex, wez, stV, seval, IntWalk.iteOmega, IntWalk.toNatUp, reduceCtorEq, wordsB]
  · intro k hk
    by_cases hlt : k < 8
    · have hw1 : (ws.getD k 0).toNat < 4294967296 := word_lt _
      have hwl := wordsB_len (ws.take k)
      rw [List.length_take] at hwl
      simp only [lp_fin_0, finSt, wx, wy, wz, stV, seval, IntWalk.iteOmega, IntWalk.toNatUp, reduceCtorEq, get_words (show k < ws.length by omega)]
      refine st_call (put_in G (ws.getD k 0).toNat 4 (by decide)) ?_ (.inl rfl) ?_
      · simp only [wx, wy, wz, stV, seval, IntWalk.iteOmega, IntWalk.toNatUp, reduceCtorEq]
      simp only [wx, wy, wz, stV, seval, IntWalk.iteOmega, IntWalk.toNatUp, reduceCtorEq, srcV, wordsB_take ws k (by omega), putL_length]
      refine lop_next (k + 1) (by omega) (by omega) (ent_l (fun _ => 352) ?_ ?_ rfl rfl) <;> simp only [wx, wex, wez, stV, seval, IntWalk.iteOmega, IntWalk.toNatUp, reduceCtorEq]
    · obtain rfl : k = 8 := by omega
      have : ws.take 8 = ws := List.take_of_length_le (by omega)
      simp only [lp_fin_0, finSt, wx, wy, wz, stV, seval, IntWalk.iteOmega, IntWalk.toNatUp, reduceCtorEq, this]
      exact ret_own (id := 1) (n := (wordsB ws).length) (s := 1) (by simp only [wx, stV, seval, IntWalk.iteOmega, IntWalk.toNatUp, reduceCtorEq]) (by simp only [wx, stV, seval, IntWalk.iteOmega, IntWalk.toNatUp, reduceCtorEq]) (by rw [List.length_map])

def sf_sum : SFn := ⟨1, 16,
  .seq (.reg [⟨(some 2), .mv (.k (.c .nil)), none⟩])
  (.seq (.reg [⟨(some 6), .load (.ag 8) (.g 0), none⟩,
    ⟨(some 7), .mv (.t 0), none⟩,
    ⟨(some 8), .call 45 [(.t 6), (.t 7)] none, none⟩,
    ⟨(some 5), .mv (.t 8), none⟩,
    ⟨(some 9), .extract (.t 5) 0, none⟩,
    ⟨(some 10), .extract (.t 5) 1, none⟩,
    ⟨(some 3), .allocArr [(.int .u32 0), (.int .u32 0), (.int .u32 0), (.int .u32 0), (.int .u32 0), (.int .u32 0), (.int .u32 0), (.int .u32 0)], none⟩,
    ⟨none, .store (.ag 8) (.t 3) (.t 9), none⟩,
    ⟨(some 4), .mv (.t 10), none⟩])
  (.seq (.reg [⟨(some 11), .load (.ag 8) (.t 3), none⟩,
    ⟨(some 12), .mv (.t 4), none⟩,
    ⟨(some 13), .mv (.t 0), none⟩,
    ⟨(some 14), .len (.t 13), none⟩,
    ⟨(some 15), .call 46 [(.t 11), (.t 12), (.t 14)] (some (0, 1)), none⟩,
    ⟨(some 2), .mv (.t 15), none⟩])
  (.ret))),
  [(2, none)]⟩
theorem cf_sum : compFn Tryd.prog { own := [15], comp := [], frz := [], nils := [] } Tryd.f40 = some sf_sum := by kernel_rfl
set_option maxHeartbeats 1600000 in
theorem sum_c (G : Glob) (hF : G.at 0 = some (.ra (firstK.map wD))) (hG : G.at 1 = some (.ra (constK.map wD))) (b : List UInt8) (hb : b.length ≤ 140737488355328) : Den Tryd.prog G 40 [.sl (b.map bD)] (.w (.c (.fr 1 ((sumK b).map bD)))) := by
  refine den_walk Tryd.func40 cf_sum rfl rfl ?_
  have eg := @ev_g G 0 _ hF
  have hl : (foldB firstK b (b.length / 64)).length = 8 := foldB_len firstK_len _ _
  have h8 : firstK.length = 8 := firstK_len
  simp only [sf_sum, putAll, wx, wy, wz, stV, seval, IntWalk.iteOmega, IntWalk.toNatUp, reduceCtorEq, eg, h8]
  refine st_call (blocks_c G hG firstK b firstK_len hb) rfl (.inl rfl) ?_
  simp only [wx, wy, wz, stV, seval, IntWalk.iteOmega, IntWalk.toNatUp, reduceCtorEq, hl]
  refine st_call (fin_c G hG _ (b.drop (64 * (b.length / 64))) b.length hl (by rw [List.length_drop]; omega) hb) ?_ (.inl rfl) ?_
  · simp only [wx, wy, wz, stV, seval, IntWalk.iteOmega, IntWalk.toNatUp, reduceCtorEq]
  simp only [wx, wy, wz, stV, seval, IntWalk.iteOmega, IntWalk.toNatUp, reduceCtorEq]
  exact ret_own (id := 120) (n := (finK (foldB firstK b (b.length / 64)) (b.drop (64 * (b.length / 64))) b.length).length) (s := 1) (by simp only [wx, stV, seval, IntWalk.iteOmega, IntWalk.toNatUp, reduceCtorEq]) (by simp only [wx, stV, seval, IntWalk.iteOmega, IntWalk.toNatUp, reduceCtorEq] <;> rfl) (by rw [List.length_map]; rfl)
def sf_short : SFn := ⟨1, 8,
  .seq (.reg [⟨(some 2), .mv (.k (.c .nil)), none⟩])
  (.seq (.reg [⟨(some 3), .mv (.t 0), none⟩,
    ⟨(some 4), .call 40 [(.t 3)] none, none⟩,
    ⟨(some 5), .slice 1 (.t 4) none (some (.k (.c (.d (.int .i64 16))))) none, none⟩,
    ⟨(some 6), .bldSl false 1 1 (.sl []) [(0, (.t 5))], none⟩,
    ⟨(some 7), .call 39 [(.t 6)] (some (0, 1)), none⟩,
    ⟨(some 2), .mv (.t 7), none⟩])
  (.ret)),
  [(2, none)]⟩
theorem cf_short : compFn Tryd.prog { own := [7], comp := [], frz := [], nils := [] } Tryd.f37 = some sf_short := by kernel_rfl
set_option maxHeartbeats 1600000 in
theorem short_c (G : Glob) (hF : G.at 0 = some (.ra (firstK.map wD))) (hG : G.at 1 = some (.ra (constK.map wD))) (b : List UInt8) (hb : b.length ≤ 140737488355328) : Den Tryd.prog G 37 [.sl (b.map bD)] (.w (.c (.fr 1 ((shortK b).map bD)))) := by
  refine den_walk Tryd.func37 cf_short rfl rfl ?_
  have hl := sumK_len b
  simp only [sf_short, putAll, wx, wy, wz, stV, seval, IntWalk.iteOmega, IntWalk.toNatUp, reduceCtorEq]
  refine st_call (sum_c G hF hG b hb) rfl (.inl rfl) ?_
  simp only [wx, wy, wz, stV, seval, IntWalk.iteOmega, IntWalk.toNatUp, reduceCtorEq, hl]
  have hj := join_c G [shortK b] (by simp) (by simp [shortK_len])
  have hf : [shortK b].flatten = shortK b := by simp
  rw [hf] at hj
  refine st_call hj ?_ (.inl rfl) ?_
  · simp only [wx, wy, wz, stV, seval, IntWalk.iteOmega, IntWalk.toNatUp, reduceCtorEq, shortK]
  simp only [wx, wy, wz, stV, seval, IntWalk.iteOmega, IntWalk.toNatUp, reduceCtorEq]
  exact ret_own (id := 56) (n := (shortK b).length) (s := 1) (by simp only [wx, stV, seval, IntWalk.iteOmega, IntWalk.toNatUp, reduceCtorEq]) (by simp only [wx, stV, seval, IntWalk.iteOmega, IntWalk.toNatUp, reduceCtorEq]) (by rw [List.length_map])
def chSt (b : List UInt8) (M : Int) (i : Nat) : St := ⟨ofL [(0, .w (.c (.d (.sl ((chainK b i).map bD))))), (9, .w (.c (.d (.int .i64 M)))), (10, .w (.c (.d (.int .i64 (i : Int)))))], hL [], uL []⟩
theorem chainK_len (b : List UInt8) (hb : b.length ≤ 140737488355328) : ∀ n, (chainK b n).length ≤ 140737488355328
  | 0 => hb
  | n + 1 => by rw [chainK, shortK_len]; decide
def lp_chain_0 : SCode :=
  .seq (.reg [⟨(some 11), .bin .lss (.t 10) (.t 9), none⟩])
  (.seq (.cond (.t 11) (.skip)
   (.exit 0))
  (.seq (.block 1 (.reg [⟨(some 12), .mv (.t 0), none⟩,
     ⟨(some 13), .call 37 [(.t 12)] none, none⟩,
     ⟨(some 0), .mv (.t 13), none⟩]))
  (.reg [⟨(some 14), .bin .add (.t 10) (.k (.c (.d (.int .i64 1)))), none⟩,
    ⟨(some 10), .mv (.t 14), none⟩])))
def sf_chain : SFn := ⟨2, 16,
  .seq (.reg [⟨(some 4), .mv (.k (.c .nil)), none⟩])
  (.seq (.reg [⟨(some 5), .mv (.t 0), none⟩,
    ⟨(some 6), .bldFz 1 1 (.sl []) [(0, (.t 5))], none⟩,
    ⟨(some 7), .call 39 [(.t 6)] none, none⟩,
    ⟨(some 0), .mv (.t 7), none⟩])
  (.seq (.seq (.reg [⟨(some 8), .mv (.t 1), none⟩,
    ⟨(some 9), .min [(.t 8), (.k (.c (.d (.int .i64 65536))))], none⟩,
    ⟨(some 10), .mv (.k (.c (.d (.int .i64 0)))), none⟩])
  (.block 0 (.loop lp_chain_0)))
  (.seq (.reg [⟨(some 15), .mv (.t 0), none⟩,
    ⟨(some 4), .mv (.t 15), none⟩])
  (.ret)))),
  [(4, none)]⟩
theorem cf_chain : compFn Tryd.prog { own := [], comp := [], frz := [6], nils := [] } Tryd.f25 = some sf_chain := by kernel_rfl
set_option maxHeartbeats 1600000 in
theorem chain_l (G : Glob) (hF : G.at 0 = some (.ra (firstK.map wD))) (hG : G.at 1 = some (.ra (constK.map wD))) (b : List UInt8) (hb : b.length ≤ 140737488355328) (M : Int) (hM : M ≤ 65536) (Q : AX → St → Prop) (σ : St) (he : Ent σ (chSt b M 0)) (hq : ∀ f, f 0 = .w (.c (.d (.sl ((chainK b M.toNat).map bD)))) → Q (.ex 0) ⟨f, hN, uN⟩) : awp Tryd.prog G (.loop lp_chain_0) Q σ := by
  refine loop_st (chSt b M) (fun i => M.toNat - i) (fun i => i ≤ M.toNat) 0 (Nat.zero_le _) he ?_
  intro i hi
  by_cases hlt : (i : Int) < M
  · simp only [lp_chain_0, chSt, wx, wy, wz, stV, seval, IntWalk.iteOmega, IntWalk.toNatUp, reduceCtorEq]
    refine st_call (short_c G hF hG (chainK b i) (chainK_len b hb i)) rfl (.inl rfl) ?_
    simp only [wx, wy, wz, stV, seval, IntWalk.iteOmega, IntWalk.toNatUp, reduceCtorEq]
    refine lop_next (i + 1) (by omega) (by omega) (ent_l id ?_ ?_ rfl rfl) <;> simp only [wx, wex, wez, stV, seval, IntWalk.iteOmega, IntWalk.toNatUp, reduceCtorEq, chainK]
  · obtain rfl : i = M.toNat := by omega
    simp only [lp_chain_0, chSt, wx, wy, wz, stV, seval, IntWalk.iteOmega, IntWalk.toNatUp, reduceCtorEq]
    exact hq _ (by simp only [wx, wy, wz, stV, seval, IntWalk.iteOmega, IntWalk.toNatUp, reduceCtorEq])
set_option maxHeartbeats 1600000 in
theorem chain_c (G : Glob) (hF : G.at 0 = some (.ra (firstK.map wD))) (hG : G.at 1 = some (.ra (constK.map wD))) (b : List UInt8) (hb : b.length ≤ 140737488355328) (n : Int) : Den Tryd.prog G 25 [.sl (b.map bD), .int .i64 n] (.w (.c (.d (.sl ((chainK b (min n 65536).toNat).map bD))))) := by
  refine den_walk Tryd.func25 cf_chain rfl rfl ?_
  have hj := join_c G [b] (by simp) (by simpa using hb)
  have hf : [b].flatten = b := by simp
  rw [hf] at hj
  simp only [sf_chain, putAll, wx, wy, wz, stV, seval, IntWalk.iteOmega, IntWalk.toNatUp, reduceCtorEq]
  refine st_call hj rfl (.inl rfl) ?_
  by_cases hc : (65536 : Int) < n
  · have hm : (min n 65536).toNat = (65536 : Int).toNat := by omega
    rw [hm]
    simp only [wx, wy, wz, stV, seval, IntWalk.iteOmega, IntWalk.toNatUp, reduceCtorEq, List.foldl_cons, List.foldl_nil]
    refine chain_l G hF hG b hb 65536 (by omega) _ _ (ent_l id ?_ ?_ rfl rfl) fun f hf => ?_
    · simp only [wx, wex, wez, stV, seval, IntWalk.iteOmega, IntWalk.toNatUp, reduceCtorEq, chainK]
    · simp only [wx, wex, wez, stV, seval, IntWalk.iteOmega, IntWalk.toNatUp, reduceCtorEq]
    · simp only [wx, wy, wz, stV, seval, IntWalk.iteOmega, IntWalk.toNatUp, reduceCtorEq, hf]
      exact ret_d1 (by simp only [wx, wy, wz, stV, seval, IntWalk.iteOmega, IntWalk.toNatUp, reduceCtorEq])
  · have hm : (min n 65536).toNat = n.toNat := by omega
    rw [hm]
    simp only [wx, wy, wz, stV, seval, IntWalk.iteOmega, IntWalk.toNatUp, reduceCtorEq, List.foldl_cons, List.foldl_nil]
    refine chain_l G hF hG b hb n (by omega) _ _ (ent_l id ?_ ?_ rfl rfl) fun f hf => ?_
    · simp only [wx, wex, wez, stV, seval, IntWalk.iteOmega, IntWalk.toNatUp, reduceCtorEq, chainK]
    · simp only [wx, wex, wez, stV, seval, IntWalk.iteOmega, IntWalk.toNatUp, reduceCtorEq]
    · simp only [wx, wy, wz, stV, seval, IntWalk.iteOmega, IntWalk.toNatUp, reduceCtorEq, hf]
      exact ret_d1 (by simp only [wx, wy, wz, stV, seval, IntWalk.iteOmega, IntWalk.toNatUp, reduceCtorEq])
end Go.Proofs.YtgepbpcolddgoaaDoor
