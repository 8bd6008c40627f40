/- Layer 2 on data: the reference's hashes at once. Own work. -/
import Derived.Test.YtgepbpcolddgoaaDoorPh4
set_option linter.unusedVariables false
set_option linter.unusedSimpArgs false
namespace Go.Proofs.YtgepbpcolddgoaaDoor
open Go.RowKit

theorem rep_snoc {α : Type} (a : α) (j : Nat) : List.replicate j a ++ [a] = List.replicate (j + 1) a := by rw [List.replicate_succ']
theorem sum_rep (n : Nat) : ((List.replicate n (0 : UInt8)).map UInt8.toNat).sum = 0 := by induction n with
  | zero => rfl
  | succ n ih => rw [List.replicate_succ, List.map_cons, List.sum_cons, ih]; rfl
def rf1St (h : List UInt32) (rest : List UInt8) (count : Nat) (j : Nat) : St := ⟨ofL [(0, .w (.c (.d (.sl (h.map wD))))), (2, .w (.c (.d (.int .i64 (count : Int))))), (7, .w (.c (.d (.sl (constK.map wD))))), (8, .w (.c (.own 1 1 0 (rest ++ [128] ++ List.replicate j 0).length)))], hL [(1, .row 1 ((rest ++ [128] ++ List.replicate j 0).map bD))], uL [1]⟩
def rf2St (h : List UInt32) (p : List UInt8) (n : Nat) : St := ⟨ofL [(0, .w (.c (.d (.sl ((foldB h p n).map wD))))), (7, .w (.c (.d (.sl (constK.map wD))))), (8, .w (.c (.own 1 1 0 p.length))), (9, .w (.c (.d (.int .i64 ((64 * n : Nat) : Int)))))], hL [(1, .row 1 (p.map bD))], uL [1]⟩
def rf3St (ws : List UInt32) (k : Nat) : St := ⟨ofL [(0, .w (.c (.d (.sl (ws.map wD))))), (10, .w (.c (.own 1 1 0 (wordsB (ws.take k)).length))), (11, .w (.c (.d (.int .i64 (k : Int)))))], hL [(1, .row 1 ((wordsB (ws.take k)).map bD))], uL [1]⟩
theorem get_ws {ws : List UInt32} {k : Nat} (h : k < ws.length) : (ws.map wD)[k]? = some (wD (ws.getD k 0)) := by
  simp [h]
theorem b0_is : D.int .u8 0 = bD 0 := rfl
theorem b128_is : D.int .u8 128 = bD 128 := rfl
theorem app_c (l : List UInt8) (a : UInt8) : l.map bD ++ [bD a] = (l ++ [a]).map bD := by simp
def lp_rfin_0 : SCode :=
  .seq (.seq (.reg [⟨(some 18), .mv (.t 8), none⟩,
    ⟨(some 19), .len (.t 18), none⟩,
    ⟨(some 20), .bin .rem (.t 19) (.k (.c (.d (.int .i64 64)))), none⟩,
    ⟨(some 21), .bin .neq (.t 20) (.k (.c (.d (.int .i64 56)))), none⟩])
  (.cond (.t 21) (.skip)
   (.exit 0)))
  (.block 1 (.reg [⟨(some 22), .mv (.t 8), none⟩,
     ⟨(some 23), .bldSl false 1 1 (.int .u8 0) [(0, (.k (.c (.d (.int .u8 0)))))], none⟩,
     ⟨(some 24), .app false 1 1 (.t 22) (.t 23), none⟩,
     ⟨(some 8), .mv (.t 24), none⟩]))
def lp_rfin_1 : SCode :=
  .seq (.seq (.reg [⟨(some 31), .mv (.t 9), none⟩,
    ⟨(some 32), .mv (.t 8), none⟩,
    ⟨(some 33), .len (.t 32), none⟩,
    ⟨(some 34), .bin .lss (.t 31) (.t 33), none⟩])
  (.cond (.t 34) (.skip)
   (.exit 2)))
  (.seq (.block 3 (.reg [⟨(some 37), .mv (.t 0), none⟩,
     ⟨(some 38), .mv (.t 7), none⟩,
     ⟨(some 39), .mv (.t 8), none⟩,
     ⟨(some 40), .mv (.t 9), none⟩,
     ⟨(some 41), .mv (.t 9), none⟩,
     ⟨(some 42), .bin .add (.t 41) (.k (.c (.d (.int .i64 64)))), none⟩,
     ⟨(some 43), .slice 1 (.t 39) (some (.t 40)) (some (.t 42)) none, none⟩,
     ⟨(some 44), .call 43 [(.t 37), (.t 38), (.t 43)] none, none⟩,
     ⟨(some 0), .mv (.t 44), none⟩]))
  (.reg [⟨(some 35), .mv (.t 9), none⟩,
    ⟨(some 36), .bin .add (.t 35) (.k (.c (.d (.int .i64 64)))), none⟩,
    ⟨(some 9), .mv (.t 36), none⟩]))
def lp_rfin_2 : SCode :=
  .seq (.seq (.reg [⟨(some 46), .mv (.t 11), none⟩,
    ⟨(some 47), .bin .lss (.t 46) (.k (.c (.d (.int .i64 8)))), none⟩])
  (.cond (.t 47) (.skip)
   (.exit 4)))
  (.seq (.block 5 (.reg [⟨(some 50), .mv (.t 10), none⟩,
     ⟨(some 51), .mv (.t 0), none⟩,
     ⟨(some 52), .mv (.t 11), none⟩,
     ⟨(some 53), .idxSl 1 (.t 51) (.t 52), none⟩,
     ⟨(some 54), .load .sc (.t 53), none⟩,
     ⟨(some 55), .conv .u64 (.t 54), none⟩,
     ⟨(some 56), .call 34 [(.t 55), (.k (.c (.d (.int .i64 4))))] none, none⟩,
     ⟨(some 57), .app false 1 1 (.t 50) (.t 56), none⟩,
     ⟨(some 10), .mv (.t 57), none⟩]))
  (.reg [⟨(some 48), .mv (.t 11), none⟩,
    ⟨(some 49), .bin .add (.t 48) (.k (.c (.d (.int .i64 1)))), none⟩,
    ⟨(some 11), .mv (.t 49), none⟩]))
def sf_rfin : SFn := ⟨3, 59,
  .seq (.reg [⟨(some 6), .mv (.k (.c .nil)), none⟩])
  (.seq (.reg [⟨(some 12), .call 42 [] none, none⟩,
    ⟨(some 7), .mv (.t 12), none⟩])
  (.seq (.reg [⟨(some 13), .mv (.t 1), none⟩,
    ⟨(some 14), .bldSl false 1 1 (.sl []) [(0, (.t 13))], none⟩,
    ⟨(some 15), .call 33 [(.t 14)] (some (0, 1)), none⟩,
    ⟨(some 16), .bldSl false 1 1 (.int .u8 0) [(0, (.k (.c (.d (.int .u8 128)))))], none⟩,
    ⟨(some 17), .app false 1 1 (.t 15) (.t 16), none⟩,
    ⟨(some 8), .mv (.t 17), none⟩])
  (.seq (.block 0 (.loop lp_rfin_0))
  (.seq (.reg [⟨(some 25), .mv (.t 8), none⟩,
    ⟨(some 26), .mv (.t 2), none⟩,
    ⟨(some 27), .conv .u64 (.t 26), none⟩,
    ⟨(some 28), .bin .mul (.t 27) (.k (.c (.d (.int .u64 8)))), none⟩,
    ⟨(some 29), .call 34 [(.t 28), (.k (.c (.d (.int .i64 8))))] none, none⟩,
    ⟨(some 30), .app false 1 1 (.t 25) (.t 29), none⟩,
    ⟨(some 8), .mv (.t 30), none⟩])
  (.seq (.seq (.reg [⟨(some 9), .mv (.k (.c (.d (.int .i64 0)))), none⟩])
  (.block 2 (.loop lp_rfin_1)))
  (.seq (.reg [⟨(some 45), .bldSl true 0 1 (.int .u8 0) [], none⟩,
    ⟨(some 10), .mv (.t 45), none⟩])
  (.seq (.seq (.reg [⟨(some 11), .mv (.k (.c (.d (.int .i64 0)))), none⟩])
  (.block 4 (.loop lp_rfin_2)))
  (.seq (.reg [⟨(some 58), .mv (.t 10), none⟩,
    ⟨(some 6), .mv (.t 58), none⟩])
  (.ret))))))))),
  [(6, none)]⟩
theorem cf_rfin : compFn Tryd.prog { own := [15, 45], comp := [], frz := [], nils := [] } Tryd.f44 = some sf_rfin := by kernel_rfl
set_option maxHeartbeats 1600000 in
theorem rfin_c (G : Glob) (s : List UInt32) (rest : List UInt8) (count : Nat) (hs : s.length = 8) (hr : rest.length < 64) (hc : count ≤ 140737488355328) : Den Tryd.prog G 44 [.sl (s.map wD), .sl (rest.map bD), .int .i64 (count : Int)] (.w (.c (.fr 1 ((finK s rest count).map bD)))) := by
  refine den_walk Tryd.func44 cf_rfin rfl rfl ?_
  have hj := rjoin_c G [rest] (by simp) (by simp; omega)
  have hf : [rest].flatten = rest := by simp
  rw [hf] at hj
  obtain ⟨hp1, hp2⟩ := padK_len rest count hr
  simp only [sf_rfin, putAll, wx, wy, wz, stV, seval, IntWalk.iteOmega, IntWalk.toNatUp, reduceCtorEq]
  refine st_call (rcon_c G) rfl (.inl rfl) ?_
  simp only [wx, wy, wz, stV, seval, IntWalk.iteOmega, IntWalk.toNatUp, reduceCtorEq]
  refine st_call hj rfl (.inl rfl) ?_
  simp only [wx, wy, wz, stV, seval, IntWalk.iteOmega, IntWalk.toNatUp, reduceCtorEq, srcV, b128_is, app_c]
  refine loop_st (rf1St s rest count) (fun j => (119 - rest.length) % 64 - j) (fun j => j ≤ (119 - rest.length) % 64) 0 (Nat.zero_le _) ?_ ?_
  · refine ent_l (fun _ => 136) ?_ ?_ rfl rfl <;> simp only [wx, wex, wez, stV, seval, IntWalk.iteOmega, IntWalk.toNatUp, reduceCtorEq]
  · intro j hj
    have hl : (rest ++ [128] ++ List.replicate j 0).length = rest.length + 1 + j := by simp; omega
    have ht : ((rest ++ [128] ++ List.replicate j 0).length : Int).tmod 64 = (((rest.length + 1 + j) % 64 : Nat) : Int) := by rw [hl]; rfl
    by_cases hlt : j < (119 - rest.length) % 64
    · have e1 : rest ++ [128] ++ List.replicate j 0 ++ [0] = rest ++ [128] ++ List.replicate (j + 1) 0 := by
        rw [List.append_assoc, rep_snoc]
      generalize hx : rest ++ [128] ++ List.replicate j 0 = x at *
      simp only [lp_rfin_0, rf1St, hx, wx, wy, wz, stV, seval, IntWalk.iteOmega, IntWalk.toNatUp, reduceCtorEq, ht, srcV, b0_is, app_c, e1]
      refine lop_next (j + 1) (by omega) (by omega) (ent_l (fun _ => 192) ?_ ?_ rfl rfl) <;> simp only [wx, wex, wez, stV, seval, IntWalk.iteOmega, IntWalk.toNatUp, reduceCtorEq]
    · obtain rfl : j = (119 - rest.length) % 64 := by omega
      generalize hx : rest ++ [128] ++ List.replicate ((119 - rest.length) % 64) 0 = x at *
      simp only [lp_rfin_0, rf1St, hx, wx, wy, wz, stV, seval, IntWalk.iteOmega, IntWalk.toNatUp, reduceCtorEq, ht]
      refine st_call (rput_in G (count * 8) 8 (by decide)) ?_ (.inl rfl) ?_
      · simp only [wx, wy, wz, stV, seval, IntWalk.iteOmega, IntWalk.toNatUp, reduceCtorEq]
      have hx2 : x ++ putL (count * 8) 8 = padK rest count := by rw [← hx]; rfl
      simp only [wx, wy, wz, stV, seval, IntWalk.iteOmega, IntWalk.toNatUp, reduceCtorEq, srcV, app_map, hx2, putL_length]
      refine loop_st (rf2St s (padK rest count)) (fun n => (padK rest count).length / 64 - n) (fun n => n ≤ (padK rest count).length / 64) 0 (Nat.zero_le _) ?_ ?_
      · refine ent_l (fun _ => 240) ?_ ?_ rfl rfl <;> simp only [wx, wex, wez, stV, seval, IntWalk.iteOmega, IntWalk.toNatUp, reduceCtorEq, foldB]
      · generalize hpk : padK rest count = p at *
        intro n hn
        have hl8 := foldB_len hs p n
        by_cases hlt : n < p.length / 64
        · have h2 : ((p.drop (64 * n)).take 64).length = 64 := by rw [List.length_take, List.length_drop]; omega
          have e1 : 64 * n + 64 - 64 * n = 64 := by omega
          simp only [lp_rfin_1, rf2St, wx, wy, wz, stV, seval, IntWalk.iteOmega, IntWalk.toNatUp, reduceCtorEq]
          refine st_call (rblock_c G (foldB s p n) ((p.drop (64 * n)).take 64) hl8 h2) ?_ (.inr (fl_w _ _)) ?_
          · simp only [wx, wy, wz, stV, seval, IntWalk.iteOmega, IntWalk.toNatUp, reduceCtorEq, obSl, e1]
          simp only [wx, wy, wz, stV, seval, IntWalk.iteOmega, IntWalk.toNatUp, reduceCtorEq]
          have e2 : 64 * (n : Int) + 64 = 64 * ((n : Int) + 1) := by omega
          refine lop_next (n + 1) (by omega) (by omega) (ent_l id ?_ ?_ rfl rfl) <;> simp only [wx, wex, wez, stV, seval, IntWalk.iteOmega, IntWalk.toNatUp, reduceCtorEq, foldB, e2]
        · obtain rfl : n = p.length / 64 := by omega
          have hfk : finK s rest count = wordsB (foldB s p (p.length / 64)) := by unfold finK; rw [hpk]
          rw [hfk]
          simp only [rf2St]
          generalize foldB s p (p.length / 64) = ws at hl8
          have h64 : ¬ ((64 * (p.length / 64) : Nat) : Int) < (p.length : Int) := by omega
          simp only [lp_rfin_1, wx, wy, wz, stV, seval, IntWalk.iteOmega, IntWalk.toNatUp, reduceCtorEq, h64]
          refine loop_st (rf3St ws) (fun k => 8 - k) (fun k => k ≤ 8) 0 (Nat.zero_le _) ?_ ?_
          · refine ent_l (fun _ => 360) ?_ ?_ rfl rfl <;> simp only [wx, wex, wez, stV, seval, IntWalk.iteOmega, IntWalk.toNatUp, reduceCtorEq, wordsB]
          · intro k hk
            by_cases hlt : k < 8
            · have hw1 : (ws.getD k 0).toNat < 4294967296 := word_lt _
              have hwl := wordsB_len (ws.take k)
              rw [List.length_take] at hwl
              simp only [lp_rfin_2, rf3St, wx, wy, wz, stV, seval, IntWalk.iteOmega, IntWalk.toNatUp, reduceCtorEq, get_ws (show k < ws.length by omega)]
              refine st_call (rput_in G (ws.getD k 0).toNat 4 (by decide)) ?_ (.inl rfl) ?_
              · simp only [wx, wy, wz, stV, seval, IntWalk.iteOmega, IntWalk.toNatUp, reduceCtorEq]
              simp only [wx, wy, wz, stV, seval, IntWalk.iteOmega, IntWalk.toNatUp, reduceCtorEq, srcV, wordsB_take ws k (by omega), putL_length]
              refine lop_next (k + 1) (by omega) (by omega) (ent_l (fun _ => 456) ?_ ?_ rfl rfl) <;> simp only [wx, wex, wez, stV, seval, IntWalk.iteOmega, IntWalk.toNatUp, reduceCtorEq]
            · obtain rfl : k = 8 := by omega
              have : ws.take 8 = ws := List.take_of_length_le (by omega)
              simp only [lp_rfin_2, rf3St, wx, wy, wz, stV, seval, IntWalk.iteOmega, IntWalk.toNatUp, reduceCtorEq, this]
              exact ret_own (id := 1) (n := (wordsB ws).length) (s := 1) (by simp only [wx, stV, seval, IntWalk.iteOmega, IntWalk.toNatUp, reduceCtorEq]) (by simp only [wx, stV, seval, IntWalk.iteOmega, IntWalk.toNatUp, reduceCtorEq]) (by rw [List.length_map])

def rsSt (b : List UInt8) (n : Nat) : St := ⟨ofL [(0, .w (.c (.d (.sl (b.map bD))))), (3, .w (.c (.d (.sl ((foldB firstK b n).map wD))))), (4, .w (.c (.d (.sl (constK.map wD))))), (5, .w (.c (.d (.int .i64 ((64 * (b.length / 64) : Nat) : Int))))), (6, .w (.c (.d (.int .i64 ((64 * n : Nat) : Int)))))], hL [], uL []⟩
def lp_rsum_0 : SCode :=
  .seq (.seq (.reg [⟨(some 13), .mv (.t 6), none⟩,
    ⟨(some 14), .mv (.t 5), none⟩,
    ⟨(some 15), .bin .lss (.t 13) (.t 14), none⟩])
  (.cond (.t 15) (.skip)
   (.exit 0)))
  (.seq (.block 1 (.reg [⟨(some 18), .mv (.t 3), none⟩,
     ⟨(some 19), .mv (.t 4), none⟩,
     ⟨(some 20), .mv (.t 0), none⟩,
     ⟨(some 21), .mv (.t 6), none⟩,
     ⟨(some 22), .mv (.t 6), none⟩,
     ⟨(some 23), .bin .add (.t 22) (.k (.c (.d (.int .i64 64)))), none⟩,
     ⟨(some 24), .slice 1 (.t 20) (some (.t 21)) (some (.t 23)) none, none⟩,
     ⟨(some 25), .call 43 [(.t 18), (.t 19), (.t 24)] none, none⟩,
     ⟨(some 3), .mv (.t 25), none⟩]))
  (.reg [⟨(some 16), .mv (.t 6), none⟩,
    ⟨(some 17), .bin .add (.t 16) (.k (.c (.d (.int .i64 64)))), none⟩,
    ⟨(some 6), .mv (.t 17), none⟩]))
def sf_rsum : SFn := ⟨1, 33,
  .seq (.reg [⟨(some 2), .mv (.k (.c .nil)), none⟩])
  (.seq (.reg [⟨(some 7), .call 41 [] none, none⟩,
    ⟨(some 8), .call 42 [] none, none⟩,
    ⟨(some 3), .mv (.t 7), none⟩,
    ⟨(some 4), .mv (.t 8), none⟩])
  (.seq (.reg [⟨(some 9), .mv (.t 0), none⟩,
    ⟨(some 10), .len (.t 9), none⟩,
    ⟨(some 11), .bin .quo (.t 10) (.k (.c (.d (.int .i64 64)))), none⟩,
    ⟨(some 12), .bin .mul (.t 11) (.k (.c (.d (.int .i64 64)))), none⟩,
    ⟨(some 5), .mv (.t 12), none⟩])
  (.seq (.seq (.reg [⟨(some 6), .mv (.k (.c (.d (.int .i64 0)))), none⟩])
  (.block 0 (.loop lp_rsum_0)))
  (.seq (.reg [⟨(some 26), .mv (.t 3), none⟩,
    ⟨(some 27), .mv (.t 0), none⟩,
    ⟨(some 28), .mv (.t 5), none⟩,
    ⟨(some 29), .slice 1 (.t 27) (some (.t 28)) none none, none⟩,
    ⟨(some 30), .mv (.t 0), none⟩,
    ⟨(some 31), .len (.t 30), none⟩,
    ⟨(some 32), .call 44 [(.t 26), (.t 29), (.t 31)] (some (0, 1)), none⟩,
    ⟨(some 2), .mv (.t 32), none⟩])
  (.ret))))),
  [(2, none)]⟩
theorem cf_rsum : compFn Tryd.prog { own := [32], comp := [], frz := [], nils := [] } Tryd.f38 = some sf_rsum := by kernel_rfl
set_option maxHeartbeats 1600000 in
theorem rsum_c (G : Glob) (b : List UInt8) (hb : b.length ≤ 140737488355328) : Den Tryd.prog G 38 [.sl (b.map bD)] (.w (.c (.fr 1 ((sumK b).map bD)))) := by
  refine den_walk Tryd.func38 cf_rsum rfl rfl ?_
  have e1 : (b.length : Int).tdiv 64 = ((b.length / 64 : Nat) : Int) := rfl
  have e2 : ((b.length / 64 : Nat) : Int) * 64 = ((64 * (b.length / 64) : Nat) : Int) := by omega
  have e3 : IntKind.i64.wrap ((64 * (b.length / 64) : Nat) : Int) = ((64 * (b.length / 64) : Nat) : Int) := IntWalk.i64_in _ (by omega)
  have e4 : IntKind.i64.wrap ((b.length / 64 : Nat) : Int) = ((b.length / 64 : Nat) : Int) := IntWalk.i64_in _ (by omega)
  simp only [sf_rsum, putAll, wx, wy, stV, seval, IntWalk.iteOmega, IntWalk.toNatUp, reduceCtorEq]
  refine st_call (rfst_c G) rfl (.inl rfl) ?_
  simp only [wx, wy, stV, seval, IntWalk.iteOmega, IntWalk.toNatUp, reduceCtorEq]
  refine st_call (rcon_c G) rfl (.inl rfl) ?_
  simp only [wx, wy, stV, seval, IntWalk.iteOmega, IntWalk.toNatUp, reduceCtorEq, e1, e2, e3, e4]
  refine loop_st (rsSt b) (fun n => b.length / 64 - n) (fun n => n ≤ b.length / 64) 0 (Nat.zero_le _) ?_ ?_
  · refine ent_l id ?_ ?_ rfl rfl <;> simp only [wx, wex, stV, seval, IntWalk.iteOmega, IntWalk.toNatUp, reduceCtorEq, foldB]
  · intro n hn
    have hl8 := foldB_len firstK_len b n
    by_cases hlt : n < b.length / 64
    · have h2 : ((b.drop (64 * n)).take 64).length = 64 := by rw [List.length_take, List.length_drop]; omega
      have e1 : 64 * n + 64 - 64 * n = 64 := by omega
      have e5 : IntKind.i64.wrap (((64 * n : Nat) : Int) + 64) = ((64 * (n + 1) : Nat) : Int) := by rw [IntWalk.i64_in _ (by omega)]; omega
      have e6 : 64 * (n + 1) - 64 * n = 64 := by omega
      simp only [lp_rsum_0, rsSt, wx, wy, stV, seval, IntWalk.iteOmega, IntWalk.toNatUp, reduceCtorEq, e1, e5, e6]
      refine st_call (rblock_c G (foldB firstK b n) ((b.drop (64 * n)).take 64) hl8 h2) ?_ (.inl rfl) ?_
      · simp only [wx, wy, stV, seval, IntWalk.iteOmega, IntWalk.toNatUp, reduceCtorEq]
      simp only [wx, wy, stV, seval, IntWalk.iteOmega, IntWalk.toNatUp, reduceCtorEq, e5]
      refine lop_next (n + 1) (by omega) (by omega) (ent_l id ?_ ?_ rfl rfl) <;> simp only [wx, wex, stV, seval, IntWalk.iteOmega, IntWalk.toNatUp, reduceCtorEq, foldB]
    · obtain rfl : n = b.length / 64 := by omega
      have e1 : List.take (b.length - 64 * (b.length / 64)) (b.drop (64 * (b.length / 64))) = b.drop (64 * (b.length / 64)) := List.take_of_length_le (by rw [List.length_drop]; exact Nat.le_refl _)
      simp only [lp_rsum_0, rsSt, wx, wy, stV, seval, IntWalk.iteOmega, IntWalk.toNatUp, reduceCtorEq, e1]
      refine st_call (rfin_c G (foldB firstK b (b.length / 64)) (b.drop (64 * (b.length / 64))) b.length hl8 (by rw [List.length_drop]; omega) hb) ?_ (.inl rfl) ?_
      · simp only [wx, wy, stV, seval, IntWalk.iteOmega, IntWalk.toNatUp, reduceCtorEq]
      simp only [wx, wy, stV, seval, IntWalk.iteOmega, IntWalk.toNatUp, reduceCtorEq]
      exact ret_own (id := 256) (n := (finK (foldB firstK b (b.length / 64)) (b.drop (64 * (b.length / 64))) b.length).length) (s := 1) (by simp only [wx, stV, seval, IntWalk.iteOmega, IntWalk.toNatUp, reduceCtorEq]) (by simp only [wx, stV, seval, IntWalk.iteOmega, IntWalk.toNatUp, reduceCtorEq] <;> rfl) (by rw [List.length_map]; rfl)
def sf_rshort : SFn := ⟨1, 6,
  .seq (.reg [⟨(some 2), .mv (.k (.c .nil)), none⟩])
  (.seq (.reg [⟨(some 3), .mv (.t 0), none⟩,
    ⟨(some 4), .call 38 [(.t 3)] none, none⟩,
    ⟨(some 5), .slice 1 (.t 4) none (some (.k (.c (.d (.int .i64 16))))) none, none⟩,
    ⟨(some 2), .mv (.t 5), none⟩])
  (.ret)),
  [(2, none)]⟩
theorem cf_rshort : compFn Tryd.prog { own := [], comp := [], frz := [], nils := [] } Tryd.f32 = some sf_rshort := by kernel_rfl
set_option maxHeartbeats 1600000 in
theorem rshort_c (G : Glob) (b : List UInt8) (hb : b.length ≤ 140737488355328) : Den Tryd.prog G 32 [.sl (b.map bD)] (.w (.c (.d (.sl ((shortK b).map bD))))) := by
  refine den_walk Tryd.func32 cf_rshort rfl rfl ?_
  have hl := sumK_len b
  simp only [sf_rshort, putAll, wx, wy, wz, stV, seval, IntWalk.iteOmega, IntWalk.toNatUp, reduceCtorEq]
  refine st_call (rsum_c G b hb) rfl (.inl rfl) ?_
  simp only [wx, wy, wz, stV, seval, IntWalk.iteOmega, IntWalk.toNatUp, reduceCtorEq, hl]
  exact ret_d1 (by simp only [wx, wy, wz, stV, seval, IntWalk.iteOmega, IntWalk.toNatUp, reduceCtorEq, shortK])
def rchSt (b : List UInt8) (M : Int) (i : Nat) : St := ⟨ofL [(1, .w (.c (.d (.int .i64 M)))), (5, .w (.c (.d (.sl ((chainK b i).map bD))))), (6, .w (.c (.d (.int .i64 (i : Int)))))], hL [], uL []⟩
def lp_rchain_0 : SCode :=
  .seq (.seq (.reg [⟨(some 10), .mv (.t 6), none⟩,
    ⟨(some 11), .mv (.t 1), none⟩,
    ⟨(some 12), .bin .lss (.t 10) (.t 11), none⟩,
    ⟨(some 13), .mv (.t 12), none⟩,
    ⟨(some 14), .mv (.t 6), (some (13, true))⟩,
    ⟨(some 15), .bin .lss (.t 14) (.k (.c (.d (.int .i64 65536)))), (some (13, true))⟩,
    ⟨(some 16), .pick (.t 13) (.t 15) (.k (.c (.d (.bool false)))), none⟩])
  (.cond (.t 16) (.skip)
   (.exit 0)))
  (.seq (.block 1 (.reg [⟨(some 19), .mv (.t 5), none⟩,
     ⟨(some 20), .call 32 [(.t 19)] none, none⟩,
     ⟨(some 5), .mv (.t 20), none⟩]))
  (.reg [⟨(some 17), .mv (.t 6), none⟩,
    ⟨(some 18), .bin .add (.t 17) (.k (.c (.d (.int .i64 1)))), none⟩,
    ⟨(some 6), .mv (.t 18), none⟩]))
def sf_rchain : SFn := ⟨2, 22,
  .seq (.reg [⟨(some 4), .mv (.k (.c .nil)), none⟩])
  (.seq (.reg [⟨(some 7), .mv (.t 0), none⟩,
    ⟨(some 8), .bldSl false 1 1 (.sl []) [(0, (.t 7))], none⟩,
    ⟨(some 9), .call 33 [(.t 8)] none, none⟩,
    ⟨(some 5), .mv (.t 9), none⟩])
  (.seq (.seq (.reg [⟨(some 6), .mv (.k (.c (.d (.int .i64 0)))), none⟩])
  (.block 0 (.loop lp_rchain_0)))
  (.seq (.reg [⟨(some 21), .mv (.t 5), none⟩,
    ⟨(some 4), .mv (.t 21), none⟩])
  (.ret)))),
  [(4, none)]⟩
theorem cf_rchain : compFn Tryd.prog { own := [], comp := [], frz := [], nils := [] } Tryd.f35 = some sf_rchain := by kernel_rfl
set_option maxHeartbeats 1600000 in
theorem rchain_c (G : Glob) (b : List UInt8) (hb : b.length ≤ 140737488355328) (n : Int) : Den Tryd.prog G 35 [.sl (b.map bD), .int .i64 n] (.w (.c (.d (.sl ((chainK b (min n 65536).toNat).map bD))))) := by
  refine den_walk Tryd.func35 cf_rchain rfl rfl ?_
  have hj := rjoin_c G [b] (by simp) (by simpa using hb)
  have hf : [b].flatten = b := by simp
  rw [hf] at hj
  simp only [sf_rchain, putAll, wx, wy, wz, stV, seval, IntWalk.iteOmega, IntWalk.toNatUp, reduceCtorEq]
  refine st_call hj rfl (.inl rfl) ?_
  simp only [wx, wy, wz, stV, seval, IntWalk.iteOmega, IntWalk.toNatUp, reduceCtorEq]
  refine loop_st (rchSt b n) (fun i => (min n 65536).toNat - i) (fun i => i ≤ (min n 65536).toNat) 0 (Nat.zero_le _) ?_ ?_
  · refine ent_l id ?_ ?_ rfl rfl <;> simp only [wx, wex, wez, stV, seval, IntWalk.iteOmega, IntWalk.toNatUp, reduceCtorEq, chainK]
  · intro i hi
    by_cases hlt : (i : Int) < n
    · by_cases hlt2 : i < 65536
      · simp only [lp_rchain_0, rchSt, wx, wy, wz, stV, seval, IntWalk.iteOmega, IntWalk.toNatUp, reduceCtorEq]
        refine st_call (rshort_c G (chainK b i) (chainK_len b hb i)) rfl (.inl rfl) ?_
        simp only [wx, wy, wz, stV, seval, IntWalk.iteOmega, IntWalk.toNatUp, reduceCtorEq]
        refine lop_next (i + 1) (by omega) (by omega) (ent_l id ?_ ?_ rfl rfl) <;> simp only [wx, wex, wez, stV, seval, IntWalk.iteOmega, IntWalk.toNatUp, reduceCtorEq, chainK]
      · obtain rfl : i = (min n 65536).toNat := by omega
        simp only [lp_rchain_0, rchSt, wx, wy, wz, stV, seval, IntWalk.iteOmega, IntWalk.toNatUp, reduceCtorEq]
        exact ret_d1 (by simp only [wx, wy, wz, stV, seval, IntWalk.iteOmega, IntWalk.toNatUp, reduceCtorEq])
    · obtain rfl : i = (min n 65536).toNat := by omega
      simp only [lp_rchain_0, rchSt, wx, wy, wz, stV, seval, IntWalk.iteOmega, IntWalk.toNatUp, reduceCtorEq]
      exact ret_d1 (by simp only [wx, wy, wz, stV, seval, IntWalk.iteOmega, IntWalk.toNatUp, reduceCtorEq])
end Go.Proofs.YtgepbpcolddgoaaDoor
