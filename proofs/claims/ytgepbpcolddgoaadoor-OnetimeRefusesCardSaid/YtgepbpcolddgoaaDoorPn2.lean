/- Layer 8 on data: public keys, signatures, and what a signature gives back, in both codes. Own work. -/
import Derived.Test.YtgepbpcolddgoaaDoorPn1
import Derived.Test.YtgepbpcolddgoaaDoorPo2
import Derived.Test.YtgepbpcolddgoaaDoorPs1
set_option linter.unusedVariables false
set_option linter.unusedSimpArgs false
namespace Go.Proofs.YtgepbpcolddgoaaDoor
open Go.RowKit

theorem ends_len {f : Nat → List UInt8} : ∀ {n : Nat}, (∀ i, i < n → (f i).length = 16) → (endsM f n).length = 16 * n
  | 0, _ => rfl
  | n + 1, h => by rw [endsM_succ, List.length_append, ends_len (fun i hi => h i (by omega)), h n (by omega)]; omega
theorem ends_1 (f : Nat → List UInt8) : f 0 = endsM f 1 := by simp [endsM]
theorem ends_map (f : Nat → List UInt8) (n : Nat) : (endsM f n).map bD ++ (f n).map bD = (endsM f (n + 1)).map bD := by rw [endsM_succ, List.map_append]
def ebV : Nat → V
  | 0 => .w (.c .nil)
  | j + 1 => .w (.c (.own 1 1 0 (16 * (j + 1))))
def ebH (f : Nat → List UInt8) : Nat → List (Nat × Ob)
  | 0 => []
  | j + 1 => [(1, .row 1 ((endsM f (j + 1)).map bD))]
def pubF (seed : List UInt8) (i : Nat) (c : Nat) : List UInt8 := chainK (secM seed i c) 15
theorem pubF_len (seed : List UInt8) (i c : Nat) : (pubF seed i c).length = 16 := chain16 (secM_len _ _ _) _
def pubV (seed : List UInt8) (index : Int) : List UInt8 := if chkE seed index = 0 then pubM seed index.toNat else []
def pbSt (seed : List UInt8) (i : Nat) (j : Nat) : St := ⟨ofL [(0, .w (.c (.d (.sl (seed.map bD))))), (1, .w (.c (.d (.int .i64 (i : Int))))), (7, ebV j), (15, .w (.c (.d (.int .i64 (j : Int)))))], hL (ebH (pubF seed i) j), uL [1]⟩
def lp_pub_0 : SCode :=
  .seq (.reg [⟨(some 16), .bin .lss (.t 15) (.k (.c (.d (.int .i64 35)))), none⟩])
  (.seq (.cond (.t 16) (.skip)
   (.exit 0))
  (.seq (.block 1 (.seq (.reg [⟨(some 17), .mv (.t 15), none⟩,
     ⟨(some 8), .mv (.t 17), none⟩])
   (.reg [⟨(some 18), .mv (.t 7), none⟩,
     ⟨(some 19), .mv (.t 0), none⟩,
     ⟨(some 20), .mv (.t 1), none⟩,
     ⟨(some 21), .mv (.t 8), none⟩,
     ⟨(some 22), .call 30 [(.t 19), (.t 20), (.t 21)] none, none⟩,
     ⟨(some 23), .call 25 [(.t 22), (.k (.c (.d (.int .i64 15))))] none, none⟩,
     ⟨(some 24), .app false 1 1 (.t 18) (.t 23), none⟩,
     ⟨(some 7), .mv (.t 24), none⟩])))
  (.reg [⟨(some 25), .bin .add (.t 15) (.k (.c (.d (.int .i64 1)))), none⟩,
    ⟨(some 15), .mv (.t 25), none⟩])))
def sf_pub : SFn := ⟨2, 28,
  .seq (.reg [⟨(some 4), .mv (.k (.c .nil)), none⟩,
    ⟨(some 5), .mv (.k (.c (.d (.int .i64 0)))), none⟩])
  (.seq (.seq (.reg [⟨(some 9), .mv (.t 0), none⟩,
    ⟨(some 10), .mv (.t 1), none⟩,
    ⟨(some 11), .call 29 [(.t 9), (.t 10)] none, none⟩,
    ⟨(some 6), .mv (.t 11), none⟩])
  (.seq (.reg [⟨(some 12), .mv (.t 6), none⟩,
    ⟨(some 13), .bin .neq (.t 12) (.k (.c (.d (.int .i64 0)))), none⟩])
  (.cond (.t 13) (.seq (.reg [⟨(some 14), .mv (.t 6), none⟩,
     ⟨(some 4), .mv (.k (.c .nil)), none⟩,
     ⟨(some 5), .mv (.t 14), none⟩])
   (.ret))
   (.skip))))
  (.seq (.reg [⟨(some 7), .mv (.k (.c .nil)), none⟩])
  (.seq (.seq (.reg [⟨(some 15), .mv (.k (.c (.d (.int .i64 0)))), none⟩])
  (.block 0 (.loop lp_pub_0)))
  (.seq (.reg [⟨(some 26), .mv (.t 7), none⟩,
    ⟨(some 27), .call 37 [(.t 26)] (some (0, 1)), none⟩,
    ⟨(some 4), .mv (.t 27), none⟩,
    ⟨(some 5), .mv (.k (.c (.d (.int .i64 0)))), none⟩])
  (.ret))))),
  [(4, none), (5, none)]⟩
theorem cf_pub : compFn Tryd.prog { own := [27], comp := [], frz := [], nils := [] } Tryd.f23 = some sf_pub := by kernel_rfl
set_option maxHeartbeats 3200000 in
theorem pub_f (G : Glob) (hF : G.at 0 = some (.ra (firstK.map wD))) (hG : G.at 1 = some (.ra (constK.map wD))) (seed : List UInt8) (index : Int) : Den Tryd.prog G 23 [.sl (seed.map bD), .int .i64 index] (.tup [.c (.fr 1 ((pubV seed index).map bD)), .c (.d (.int .i64 (chkE seed index)))]) := by
  refine den_walk Tryd.func23 cf_pub rfl rfl ?_
  have hk := ochk_c G seed index
  by_cases h : chkE seed index = 0
  · obtain ⟨k1, k2, k3⟩ := chkE_ok h
    have hV : pubV seed index = pubM seed index.toNat := if_pos h
    rw [h] at hk
    rw [hV, h]
    obtain ⟨i, rfl⟩ := Int.eq_ofNat_of_zero_le k2
    have e1 : ((i : Int).toNat) = i := rfl
    rw [e1]
    simp only [sf_pub, putAll, wx, wy, wz, stV, seval, IntWalk.iteOmega, IntWalk.toNatUp, reduceCtorEq]
    refine st_call (hk) rfl (.inl rfl) ?_
    simp only [wx, wy, wz, stV, seval, IntWalk.iteOmega, IntWalk.toNatUp, reduceCtorEq]
    refine loop_st (pbSt seed i) (fun j => 35 - j) (fun j => j ≤ 35) 0 (Nat.zero_le _) ?_ ?_
    · refine ent_l (fun i => i) ?_ ?_ rfl rfl <;> simp only [wx, wex, wez, stV, seval, IntWalk.iteOmega, IntWalk.toNatUp, reduceCtorEq, ebV, ebH]
    · intro j hj
      by_cases hlt : j < 35
      · have hs := sec0_c G hF hG seed i j k1 (by omega) hlt
        have hc := chain_c G hF hG (secM seed i j) (by rw [secM_len]; decide) 15
        have hm : chainK (secM seed i j) (min (15 : Int) 65536).toNat = pubF seed i j := rfl
        rw [hm] at hc
        have hl := pubF_len seed i j
        rcases j with _ | j
        · have h0 := ends_1 (pubF seed i)
          rw [h0] at hc hl
          simp only [lp_pub_0, pbSt, ebV, ebH, wx, wy, wz, stV, seval, IntWalk.iteOmega, IntWalk.toNatUp, reduceCtorEq]
          refine st_call (hs) rfl (.inl rfl) ?_
          simp only [wx, wy, wz, stV, seval, IntWalk.iteOmega, IntWalk.toNatUp, reduceCtorEq]
          refine st_call (hc) rfl (.inl rfl) ?_
          simp only [srcV, hl, wx, wy, wz, stV, seval, IntWalk.iteOmega, IntWalk.toNatUp, reduceCtorEq]
          refine lop_next (0 + 1) (by omega) (by omega) (ent_l (fun _ => 192) ?_ ?_ rfl rfl) <;> simp only [wx, wex, wez, stV, seval, IntWalk.iteOmega, IntWalk.toNatUp, reduceCtorEq, ebV, ebH, hl]
        · have h0 := ends_map (pubF seed i) (j + 1)
          have hl1 : (endsM (pubF seed i) (j + 1)).length = 16 * (j + 1) := ends_len fun _ _ => pubF_len _ _ _
          have hl2 : (endsM (pubF seed i) (j + 1 + 1)).length = 16 * (j + 1 + 1) := ends_len fun _ _ => pubF_len _ _ _
          simp only [lp_pub_0, pbSt, ebV, ebH, wx, wy, wz, stV, seval, IntWalk.iteOmega, IntWalk.toNatUp, reduceCtorEq]
          refine st_call (hs) rfl (.inl rfl) ?_
          simp only [wx, wy, wz, stV, seval, IntWalk.iteOmega, IntWalk.toNatUp, reduceCtorEq]
          refine st_call (hc) rfl (.inl rfl) ?_
          simp only [srcV, hl, hl1, hl2, h0, wx, wy, wz, stV, seval, IntWalk.iteOmega, IntWalk.toNatUp, reduceCtorEq]
          refine lop_next (j + 1 + 1) (by omega) (by omega) (ent_l (fun _ => 192) ?_ ?_ rfl rfl) <;> simp only [wx, wex, wez, stV, seval, IntWalk.iteOmega, IntWalk.toNatUp, reduceCtorEq, ebV, ebH, hl2]
      · obtain rfl : j = 35 := by omega
        have hl : (endsM (pubF seed i) 35).length = 560 := ends_len fun _ _ => pubF_len _ _ _
        have hh := short_c G hF hG (endsM (pubF seed i) 35) (by omega)
        have hm : shortK (endsM (pubF seed i) 35) = pubM seed i := rfl
        rw [hm] at hh
        have ht : (endsM (pubF seed i) 35).take 560 = endsM (pubF seed i) 35 := List.take_of_length_le (by omega)
        simp only [lp_pub_0, pbSt, ebV, ebH, wx, wy, wz, stV, seval, IntWalk.iteOmega, IntWalk.toNatUp, reduceCtorEq]
        generalize endsM (pubF seed i) 35 = z at *
        refine st_call hh (by simp only [wx, wy, wz, stV, seval, IntWalk.iteOmega, IntWalk.toNatUp, reduceCtorEq, hl, ht]) (.inr (fl_b _ _)) ?_
        simp only [wx, wy, wz, stV, seval, IntWalk.iteOmega, IntWalk.toNatUp, reduceCtorEq]
        exact ret_f2 (by simp only [wx, wy, wz, stV, seval, IntWalk.iteOmega, IntWalk.toNatUp, reduceCtorEq]) (by simp only [wx, wy, wz, stV, seval, IntWalk.iteOmega, IntWalk.toNatUp, reduceCtorEq])
  · have hV : pubV seed index = [] := if_neg h
    rw [hV]
    generalize chkE seed index = e at *
    simp only [sf_pub, putAll, wx, wy, wz, stV, seval, IntWalk.iteOmega, IntWalk.toNatUp, reduceCtorEq]
    refine st_call (hk) rfl (.inl rfl) ?_
    simp only [wx, wy, wz, stV, seval, IntWalk.iteOmega, IntWalk.toNatUp, reduceCtorEq]
    exact ret_f2 (by simp only [wx, wy, wz, stV, seval, IntWalk.iteOmega, IntWalk.toNatUp, reduceCtorEq]) (by simp only [wx, wy, wz, stV, seval, IntWalk.iteOmega, IntWalk.toNatUp, reduceCtorEq])
theorem pub_c (G : Glob) (hF : G.at 0 = some (.ra (firstK.map wD))) (hG : G.at 1 = some (.ra (constK.map wD))) (seed : List UInt8) (index : Int) : Den Tryd.prog G 23 [.sl (seed.map bD), .int .i64 index] (.tup [.c (.d (.sl ((pubV seed index).map bD))), .c (.d (.int .i64 (chkE seed index)))]) := den_ro2 (pub_f G hF hG seed index)
theorem secV_ok {seed : List UInt8} {i c : Nat} (h : seed.length = 32) (hi : i ≤ 2147483647) (hc : c < 35) : secE seed (i : Int) (c : Int) = 0 ∧ secV seed (i : Int) (c : Int) = secM seed i c := by
  have hk : chkE seed (i : Int) = 0 := by unfold chkE; rw [if_neg (by omega), if_neg (by omega)]
  have hE : secE seed (i : Int) (c : Int) = 0 := by unfold secE; rw [if_pos hk, if_neg (by omega)]
  exact ⟨hE, if_pos hE⟩
def rpbSt (seed : List UInt8) (i : Nat) (j : Nat) : St := ⟨ofL [(0, .w (.c (.d (.sl (seed.map bD))))), (1, .w (.c (.d (.int .i64 (i : Int))))), (7, .w (.c (.own 1 1 0 (16 * j)))), (8, .w (.c (.d (.int .i64 (j : Int)))))], hL [(1, .row 1 ((endsM (pubF seed i) j).map bD))], uL [1]⟩
def lp_rpub_0 : SCode :=
  .seq (.seq (.reg [⟨(some 18), .mv (.t 8), none⟩,
    ⟨(some 19), .bin .lss (.t 18) (.k (.c (.d (.int .i64 35)))), none⟩])
  (.cond (.t 19) (.skip)
   (.exit 0)))
  (.seq (.block 1 (.seq (.reg [⟨(some 23), .mv (.t 0), none⟩,
     ⟨(some 24), .mv (.t 1), none⟩,
     ⟨(some 25), .mv (.t 8), none⟩,
     ⟨(some 26), .call 12 [(.t 23), (.t 24), (.t 25)] none, none⟩,
     ⟨(some 22), .mv (.t 26), none⟩,
     ⟨(some 27), .extract (.t 22) 0, none⟩,
     ⟨(some 28), .extract (.t 22) 1, none⟩,
     ⟨(some 9), .mv (.t 27), none⟩,
     ⟨(some 10), .mv (.t 28), none⟩])
   (.reg [⟨(some 29), .mv (.t 7), none⟩,
     ⟨(some 30), .mv (.t 9), none⟩,
     ⟨(some 31), .call 35 [(.t 30), (.k (.c (.d (.int .i64 15))))] none, none⟩,
     ⟨(some 32), .app false 1 1 (.t 29) (.t 31), none⟩,
     ⟨(some 7), .mv (.t 32), none⟩])))
  (.reg [⟨(some 20), .mv (.t 8), none⟩,
    ⟨(some 21), .bin .add (.t 20) (.k (.c (.d (.int .i64 1)))), none⟩,
    ⟨(some 8), .mv (.t 21), none⟩]))
def sf_rpub : SFn := ⟨2, 35,
  .seq (.reg [⟨(some 4), .mv (.k (.c .nil)), none⟩,
    ⟨(some 5), .mv (.k (.c (.d (.int .i64 0)))), none⟩])
  (.seq (.seq (.reg [⟨(some 11), .mv (.t 0), none⟩,
    ⟨(some 12), .mv (.t 1), none⟩,
    ⟨(some 13), .call 31 [(.t 11), (.t 12)] none, none⟩,
    ⟨(some 6), .mv (.t 13), none⟩])
  (.seq (.reg [⟨(some 14), .mv (.t 6), none⟩,
    ⟨(some 15), .bin .neq (.t 14) (.k (.c (.d (.int .i64 0)))), none⟩])
  (.cond (.t 15) (.seq (.reg [⟨(some 16), .mv (.t 6), none⟩,
     ⟨(some 4), .mv (.k (.c .nil)), none⟩,
     ⟨(some 5), .mv (.t 16), none⟩])
   (.ret))
   (.skip))))
  (.seq (.reg [⟨(some 17), .bldSl true 0 1 (.int .u8 0) [], none⟩,
    ⟨(some 7), .mv (.t 17), none⟩])
  (.seq (.seq (.reg [⟨(some 8), .mv (.k (.c (.d (.int .i64 0)))), none⟩])
  (.block 0 (.loop lp_rpub_0)))
  (.seq (.reg [⟨(some 33), .mv (.t 7), none⟩,
    ⟨(some 34), .call 32 [(.t 33)] (some (0, 1)), none⟩,
    ⟨(some 4), .mv (.t 34), none⟩,
    ⟨(some 5), .mv (.k (.c (.d (.int .i64 0)))), none⟩])
  (.ret))))),
  [(4, none), (5, none)]⟩
theorem cf_rpub : compFn Tryd.prog { own := [17, 34], comp := [], frz := [], nils := [] } Tryd.f24 = some sf_rpub := by kernel_rfl
set_option maxHeartbeats 3200000 in
theorem rpub_f (G : Glob) (seed : List UInt8) (index : Int) : Den Tryd.prog G 24 [.sl (seed.map bD), .int .i64 index] (.tup [.c (.fr 1 ((pubV seed index).map bD)), .c (.d (.int .i64 (chkE seed index)))]) := by
  refine den_walk Tryd.func24 cf_rpub rfl rfl ?_
  have hk := rochk_c G seed index
  by_cases h : chkE seed index = 0
  · obtain ⟨k1, k2, k3⟩ := chkE_ok h
    have hV : pubV seed index = pubM seed index.toNat := if_pos h
    rw [h] at hk
    rw [hV, h]
    obtain ⟨i, rfl⟩ := Int.eq_ofNat_of_zero_le k2
    have e1 : ((i : Int).toNat) = i := rfl
    rw [e1]
    simp only [sf_rpub, putAll, wx, wy, wz, stV, seval, IntWalk.iteOmega, IntWalk.toNatUp, reduceCtorEq]
    refine st_call (hk) rfl (.inl rfl) ?_
    simp only [wx, wy, wz, stV, seval, IntWalk.iteOmega, IntWalk.toNatUp, reduceCtorEq]
    refine loop_st (rpbSt seed i) (fun j => 35 - j) (fun j => j ≤ 35) 0 (Nat.zero_le _) ?_ ?_
    · refine ent_l (fun _ => 136) ?_ ?_ rfl rfl <;> simp only [wx, wex, wez, stV, seval, IntWalk.iteOmega, IntWalk.toNatUp, reduceCtorEq, endsM, List.range_zero]
    · intro j hj
      have hl1 : (endsM (pubF seed i) j).length = 16 * j := ends_len fun _ _ => pubF_len _ _ _
      by_cases hlt : j < 35
      · have hs := rsec_c G seed (i : Int) (j : Int)
        rw [(secV_ok k1 (by omega) hlt).1, (secV_ok k1 (by omega) hlt).2] at hs
        have hc := rchain_c G (secM seed i j) (by rw [secM_len]; decide) 15
        have hm : chainK (secM seed i j) (min (15 : Int) 65536).toNat = pubF seed i j := rfl
        rw [hm] at hc
        have hl := pubF_len seed i j
        have h0 := ends_map (pubF seed i) j
        have hl2 : (endsM (pubF seed i) (j + 1)).length = 16 * (j + 1) := ends_len fun _ _ => pubF_len _ _ _
        simp only [lp_rpub_0, rpbSt, wx, wy, wz, stV, seval, IntWalk.iteOmega, IntWalk.toNatUp, reduceCtorEq]
        refine st_call (hs) rfl (.inl rfl) ?_
        simp only [wx, wy, wz, stV, seval, IntWalk.iteOmega, IntWalk.toNatUp, reduceCtorEq]
        refine st_call (hc) rfl (.inl rfl) ?_
        simp only [srcV, hl, hl1, hl2, h0, wx, wy, wz, stV, seval, IntWalk.iteOmega, IntWalk.toNatUp, reduceCtorEq]
        refine lop_next (j + 1) (by omega) (by omega) (ent_l (fun _ => 256) ?_ ?_ rfl rfl) <;> simp only [wx, wex, wez, stV, seval, IntWalk.iteOmega, IntWalk.toNatUp, reduceCtorEq, hl2]
      · obtain rfl : j = 35 := by omega
        have hh := rshF_f G (endsM (pubF seed i) 35) (by omega)
        have hm : shortK (endsM (pubF seed i) 35) = pubM seed i := rfl
        rw [hm] at hh
        have ht : (endsM (pubF seed i) 35).take 560 = endsM (pubF seed i) 35 := List.take_of_length_le (by omega)
        have hl : (endsM (pubF seed i) 35).length = 560 := hl1
        simp only [lp_rpub_0, rpbSt, wx, wy, wz, stV, seval, IntWalk.iteOmega, IntWalk.toNatUp, reduceCtorEq]
        generalize endsM (pubF seed i) 35 = z at *
        refine st_call hh (by simp only [wx, wy, wz, stV, seval, IntWalk.iteOmega, IntWalk.toNatUp, reduceCtorEq, hl, ht]) (.inr (fl_b _ _)) ?_
        simp only [wx, wy, wz, stV, seval, IntWalk.iteOmega, IntWalk.toNatUp, reduceCtorEq]
        exact ret_f2 (by simp only [wx, wy, wz, stV, seval, IntWalk.iteOmega, IntWalk.toNatUp, reduceCtorEq]) (by simp only [wx, wy, wz, stV, seval, IntWalk.iteOmega, IntWalk.toNatUp, reduceCtorEq])
  · have hV : pubV seed index = [] := if_neg h
    rw [hV]
    generalize chkE seed index = e at *
    simp only [sf_rpub, putAll, wx, wy, wz, stV, seval, IntWalk.iteOmega, IntWalk.toNatUp, reduceCtorEq]
    refine st_call (hk) rfl (.inl rfl) ?_
    simp only [wx, wy, wz, stV, seval, IntWalk.iteOmega, IntWalk.toNatUp, reduceCtorEq]
    exact ret_f2 (by simp only [wx, wy, wz, stV, seval, IntWalk.iteOmega, IntWalk.toNatUp, reduceCtorEq]) (by simp only [wx, wy, wz, stV, seval, IntWalk.iteOmega, IntWalk.toNatUp, reduceCtorEq])
theorem rpub_c (G : Glob) (seed : List UInt8) (index : Int) : Den Tryd.prog G 24 [.sl (seed.map bD), .int .i64 index] (.tup [.c (.d (.sl ((pubV seed index).map bD))), .c (.d (.int .i64 (chkE seed index)))]) := den_ro2 (rpub_f G seed index)
/-! ### Signatures -/
def sigE (seed : List UInt8) (index : Int) (digest : List UInt8) : Int := if chkE seed index = 0 then dgtE digest else chkE seed index
def sigV (seed : List UInt8) (index : Int) (digest : List UInt8) : List (List UInt8) := if sigE seed index digest = 0 then sigM seed index.toNat digest else []
def sgV : Nat → V
  | 0 => .w (.c .nil)
  | j + 1 => .w (.c (.own 1 1 0 (j + 1)))
def sgH (seed : List UInt8) (i : Nat) (digest : List UInt8) : Nat → List (Nat × Ob)
  | 0 => []
  | j + 1 => [(1, .row 1 ((sigN seed i digest (j + 1)).map fun l => D.sl (l.map bD)))]
def sgSt (seed : List UInt8) (i : Nat) (digest : List UInt8) (j : Nat) : St := ⟨ofL [(0, .w (.c (.d (.sl (seed.map bD))))), (1, .w (.c (.d (.int .i64 (i : Int))))), (9, .w (.c (.d (.sl ((digN digest).map iD))))), (11, sgV j), (27, .w (.c (.d (.int .i64 (j : Int)))))], hL (sgH seed i digest j), uL [1]⟩
def rsgSt (seed : List UInt8) (i : Nat) (digest : List UInt8) (j : Nat) : St := ⟨ofL [(0, .w (.c (.d (.sl (seed.map bD))))), (1, .w (.c (.d (.int .i64 (i : Int))))), (9, .w (.c (.d (.sl ((digN digest).map iD))))), (11, sgV j), (12, .w (.c (.d (.int .i64 (j : Int)))))], hL (sgH seed i digest j), uL [1]⟩
theorem sigE_ok {seed : List UInt8} {index : Int} {digest : List UInt8} (h : chkE seed index = 0) (hd : digest.length = 16) : sigE seed index digest = 0 ∧ sigV seed index digest = sigM seed index.toNat digest := by
  have hE : sigE seed index digest = 0 := by unfold sigE; rw [if_pos h]; exact (dig_ok hd).1
  exact ⟨hE, if_pos hE⟩
def lp_sgn_0 : SCode :=
  .seq (.reg [⟨(some 28), .bin .lss (.t 27) (.k (.c (.d (.int .i64 35)))), none⟩])
  (.seq (.cond (.t 28) (.skip)
   (.exit 0))
  (.seq (.block 1 (.seq (.reg [⟨(some 29), .mv (.t 27), none⟩,
     ⟨(some 12), .mv (.t 29), none⟩])
   (.reg [⟨(some 30), .mv (.t 11), none⟩,
     ⟨(some 31), .mv (.t 0), none⟩,
     ⟨(some 32), .mv (.t 1), none⟩,
     ⟨(some 33), .mv (.t 12), none⟩,
     ⟨(some 34), .call 30 [(.t 31), (.t 32), (.t 33)] none, none⟩,
     ⟨(some 35), .mv (.t 9), none⟩,
     ⟨(some 36), .mv (.t 12), none⟩,
     ⟨(some 37), .idxSl 1 (.t 35) (.t 36), none⟩,
     ⟨(some 38), .load .sc (.t 37), none⟩,
     ⟨(some 39), .call 25 [(.t 34), (.t 38)] none, none⟩,
     ⟨(some 40), .bldSl false 1 1 (.sl []) [(0, (.t 39))], none⟩,
     ⟨(some 41), .app false 1 24 (.t 30) (.t 40), none⟩,
     ⟨(some 11), .mv (.t 41), none⟩])))
  (.reg [⟨(some 42), .bin .add (.t 27) (.k (.c (.d (.int .i64 1)))), none⟩,
    ⟨(some 27), .mv (.t 42), none⟩])))
def sf_sgn : SFn := ⟨3, 44,
  .seq (.reg [⟨(some 6), .mv (.k (.c .nil)), none⟩,
    ⟨(some 7), .mv (.k (.c (.d (.int .i64 0)))), none⟩])
  (.seq (.seq (.reg [⟨(some 13), .mv (.t 0), none⟩,
    ⟨(some 14), .mv (.t 1), none⟩,
    ⟨(some 15), .call 29 [(.t 13), (.t 14)] none, none⟩,
    ⟨(some 8), .mv (.t 15), none⟩])
  (.seq (.reg [⟨(some 16), .mv (.t 8), none⟩,
    ⟨(some 17), .bin .neq (.t 16) (.k (.c (.d (.int .i64 0)))), none⟩])
  (.cond (.t 17) (.seq (.reg [⟨(some 18), .mv (.t 8), none⟩,
     ⟨(some 6), .mv (.k (.c .nil)), none⟩,
     ⟨(some 7), .mv (.t 18), none⟩])
   (.ret))
   (.skip))))
  (.seq (.reg [⟨(some 20), .mv (.t 2), none⟩,
    ⟨(some 21), .call 9 [(.t 20)] none, none⟩,
    ⟨(some 19), .mv (.t 21), none⟩,
    ⟨(some 22), .extract (.t 19) 0, none⟩,
    ⟨(some 23), .extract (.t 19) 1, none⟩,
    ⟨(some 9), .mv (.t 22), none⟩,
    ⟨(some 10), .mv (.t 23), none⟩])
  (.seq (.seq (.reg [⟨(some 24), .mv (.t 10), none⟩,
    ⟨(some 25), .bin .neq (.t 24) (.k (.c (.d (.int .i64 0)))), none⟩])
  (.cond (.t 25) (.seq (.reg [⟨(some 26), .mv (.t 10), none⟩,
     ⟨(some 6), .mv (.k (.c .nil)), none⟩,
     ⟨(some 7), .mv (.t 26), none⟩])
   (.ret))
   (.skip)))
  (.seq (.reg [⟨(some 11), .mv (.k (.c .nil)), none⟩])
  (.seq (.seq (.reg [⟨(some 27), .mv (.k (.c (.d (.int .i64 0)))), none⟩])
  (.block 0 (.loop lp_sgn_0)))
  (.seq (.reg [⟨(some 43), .mv (.t 11), none⟩,
    ⟨(some 6), .mv (.t 43), none⟩,
    ⟨(some 7), .mv (.k (.c (.d (.int .i64 0)))), none⟩])
  (.ret))))))),
  [(6, none), (7, none)]⟩
theorem cf_sgn : compFn Tryd.prog { own := [], comp := [], frz := [], nils := [] } Tryd.f13 = some sf_sgn := by kernel_rfl
set_option maxHeartbeats 3200000 in
theorem sgn_f (G : Glob) (hF : G.at 0 = some (.ra (firstK.map wD))) (hG : G.at 1 = some (.ra (constK.map wD))) (seed : List UInt8) (index : Int) (digest : List UInt8) (hd0 : digest.length ≤ 9223372036854775807) : Den Tryd.prog G 13 [.sl (seed.map bD), .int .i64 index, .sl (digest.map bD)] (.tup [.c (.fr 1 ((sigV seed index digest).map fun l => D.sl (l.map bD))), .c (.d (.int .i64 (sigE seed index digest)))]) := by
  refine den_walk Tryd.func13 cf_sgn rfl rfl ?_
  have hk := ochk_c G seed index
  have hd := dgs_c G digest hd0
  by_cases h : chkE seed index = 0
  · obtain ⟨k1, k2, k3⟩ := chkE_ok h
    rw [h] at hk
    by_cases hn : digest.length = 16
    · rw [(sigE_ok h hn).1, (sigE_ok h hn).2]
      rw [(dig_ok hn).1, (dig_ok hn).2] at hd
      obtain ⟨i, rfl⟩ := Int.eq_ofNat_of_zero_le k2
      have e1 : ((i : Int).toNat) = i := rfl
      rw [e1]
      simp only [sf_sgn, putAll, wx, wy, wz, stV, seval, IntWalk.iteOmega, IntWalk.toNatUp, reduceCtorEq]
      refine st_call (hk) rfl (.inl rfl) ?_
      simp only [wx, wy, wz, stV, seval, IntWalk.iteOmega, IntWalk.toNatUp, reduceCtorEq]
      refine st_call (hd) rfl (.inl rfl) ?_
      simp only [wx, wy, wz, stV, seval, IntWalk.iteOmega, IntWalk.toNatUp, reduceCtorEq]
      refine loop_st (sgSt seed i digest) (fun j => 35 - j) (fun j => j ≤ 35) 0 (Nat.zero_le _) ?_ ?_
      · refine ent_l (fun i => i) ?_ ?_ rfl rfl <;> simp only [wx, wex, wez, stV, seval, IntWalk.iteOmega, IntWalk.toNatUp, reduceCtorEq, sgV, sgH]
      · intro j hj
        by_cases hlt : j < 35
        · have hs := sec0_c G hF hG seed i j k1 (by omega) hlt
          have hdl : (digN digest).length = 35 := by rw [digN_len, hn]
          have g1 := getI (l := digN digest) (j := j) (by omega)
          have hdd : (digN digest).getD j 0 = digA digest j := rfl
          have hle := digA_le hn j
          rw [hdd] at g1
          have hc := chain_c G hF hG (secM seed i j) (by rw [secM_len]; decide) (digA digest j : Int)
          have hm : (min ((digA digest j : Nat) : Int) 65536).toNat = digA digest j := by omega
          rw [hm] at hc
          have hsn := sigN_succ seed i digest j
          have hll := sigN_len seed i digest (j + 1)
          rcases j with _ | j
          · have h0 : sigN seed i digest 0 = [] := rfl
            rw [h0] at hsn
            have hs2 : [D.sl ((chainK (secM seed i 0) (digA digest 0)).map bD)] = (sigN seed i digest 1).map fun l => D.sl (l.map bD) := by rw [← hsn]; rfl
            simp only [lp_sgn_0, sgSt, sgV, sgH, wx, wy, wz, stV, seval, IntWalk.iteOmega, IntWalk.toNatUp, reduceCtorEq, hdl, g1]
            refine st_call (hs) rfl (.inl rfl) ?_
            simp only [hdl, g1, wx, wy, wz, stV, seval, IntWalk.iteOmega, IntWalk.toNatUp, reduceCtorEq]
            refine st_call (hc) rfl (.inl rfl) ?_
            simp only [srcV, wx, wy, wz, stV, seval, IntWalk.iteOmega, IntWalk.toNatUp, reduceCtorEq]
            refine lop_next (0 + 1) (by omega) (by omega) (ent_l (fun _ => 328) ?_ ?_ rfl rfl) <;> simp only [wx, wex, wez, stV, seval, IntWalk.iteOmega, IntWalk.toNatUp, reduceCtorEq, sgV, sgH, hll, hs2]
          · have hs2 : ((sigN seed i digest (j + 1)).map fun l => D.sl (l.map bD)) ++ [D.sl ((chainK (secM seed i (j + 1)) (digA digest (j + 1))).map bD)] = (sigN seed i digest (j + 1 + 1)).map fun l => D.sl (l.map bD) := by rw [← hsn, List.map_append]; rfl
            have hlj := sigN_len seed i digest (j + 1)
            simp only [lp_sgn_0, sgSt, sgV, sgH, wx, wy, wz, stV, seval, IntWalk.iteOmega, IntWalk.toNatUp, reduceCtorEq, hdl, g1]
            refine st_call (hs) rfl (.inl rfl) ?_
            simp only [hdl, g1, wx, wy, wz, stV, seval, IntWalk.iteOmega, IntWalk.toNatUp, reduceCtorEq]
            refine st_call (hc) rfl (.inl rfl) ?_
            simp only [srcV, hs2, hlj, wx, wy, wz, stV, seval, IntWalk.iteOmega, IntWalk.toNatUp, reduceCtorEq]
            refine lop_next (j + 1 + 1) (by omega) (by omega) (ent_l (fun _ => 328) ?_ ?_ rfl rfl) <;> simp only [wx, wex, wez, stV, seval, IntWalk.iteOmega, IntWalk.toNatUp, reduceCtorEq, sgV, sgH, hll]
        · obtain rfl : j = 35 := by omega
          have hll := sigN_len seed i digest 35
          have hsm : sigN seed i digest 35 = sigM seed i digest := rfl
          rw [hsm] at hll
          simp only [lp_sgn_0, sgSt, sgV, sgH, wx, wy, wz, stV, seval, IntWalk.iteOmega, IntWalk.toNatUp, reduceCtorEq]
          exact ret_f2 (by simp only [wx, wy, wz, stV, seval, IntWalk.iteOmega, IntWalk.toNatUp, reduceCtorEq, hll, hsm]) (by simp only [wx, wy, wz, stV, seval, IntWalk.iteOmega, IntWalk.toNatUp, reduceCtorEq])
    · have hE : sigE seed index digest = 3 := by unfold sigE; rw [if_pos h]; exact (dig_no hn).1
      have hV : sigV seed index digest = [] := if_neg (by rw [hE]; decide)
      rw [hE, hV]
      rw [(dig_no hn).1, (dig_no hn).2] at hd
      simp only [sf_sgn, putAll, wx, wy, wz, stV, seval, IntWalk.iteOmega, IntWalk.toNatUp, reduceCtorEq]
      refine st_call (hk) rfl (.inl rfl) ?_
      simp only [wx, wy, wz, stV, seval, IntWalk.iteOmega, IntWalk.toNatUp, reduceCtorEq]
      refine st_call (hd) rfl (.inl rfl) ?_
      simp only [wx, wy, wz, stV, seval, IntWalk.iteOmega, IntWalk.toNatUp, reduceCtorEq]
      exact ret_f2 (by simp only [wx, wy, wz, stV, seval, IntWalk.iteOmega, IntWalk.toNatUp, reduceCtorEq]) (by simp only [wx, wy, wz, stV, seval, IntWalk.iteOmega, IntWalk.toNatUp, reduceCtorEq])
  · have hE : sigE seed index digest = chkE seed index := if_neg h
    have hV : sigV seed index digest = [] := if_neg (by rw [hE]; exact h)
    rw [hE, hV]
    generalize chkE seed index = e at *
    simp only [sf_sgn, putAll, wx, wy, wz, stV, seval, IntWalk.iteOmega, IntWalk.toNatUp, reduceCtorEq]
    refine st_call (hk) rfl (.inl rfl) ?_
    simp only [wx, wy, wz, stV, seval, IntWalk.iteOmega, IntWalk.toNatUp, reduceCtorEq]
    exact ret_f2 (by simp only [wx, wy, wz, stV, seval, IntWalk.iteOmega, IntWalk.toNatUp, reduceCtorEq]) (by simp only [wx, wy, wz, stV, seval, IntWalk.iteOmega, IntWalk.toNatUp, reduceCtorEq])
def lp_rsgn_0 : SCode :=
  .seq (.seq (.reg [⟨(some 29), .mv (.t 12), none⟩,
    ⟨(some 30), .bin .lss (.t 29) (.k (.c (.d (.int .i64 35)))), none⟩])
  (.cond (.t 30) (.skip)
   (.exit 0)))
  (.seq (.block 1 (.seq (.reg [⟨(some 34), .mv (.t 0), none⟩,
     ⟨(some 35), .mv (.t 1), none⟩,
     ⟨(some 36), .mv (.t 12), none⟩,
     ⟨(some 37), .call 12 [(.t 34), (.t 35), (.t 36)] none, none⟩,
     ⟨(some 33), .mv (.t 37), none⟩,
     ⟨(some 38), .extract (.t 33) 0, none⟩,
     ⟨(some 39), .extract (.t 33) 1, none⟩,
     ⟨(some 13), .mv (.t 38), none⟩,
     ⟨(some 14), .mv (.t 39), none⟩])
   (.reg [⟨(some 40), .mv (.t 11), none⟩,
     ⟨(some 41), .mv (.t 13), none⟩,
     ⟨(some 42), .mv (.t 9), none⟩,
     ⟨(some 43), .mv (.t 12), none⟩,
     ⟨(some 44), .idxSl 1 (.t 42) (.t 43), none⟩,
     ⟨(some 45), .load .sc (.t 44), none⟩,
     ⟨(some 46), .call 35 [(.t 41), (.t 45)] none, none⟩,
     ⟨(some 47), .bldSl false 1 1 (.sl []) [(0, (.t 46))], none⟩,
     ⟨(some 48), .app false 1 24 (.t 40) (.t 47), none⟩,
     ⟨(some 11), .mv (.t 48), none⟩])))
  (.reg [⟨(some 31), .mv (.t 12), none⟩,
    ⟨(some 32), .bin .add (.t 31) (.k (.c (.d (.int .i64 1)))), none⟩,
    ⟨(some 12), .mv (.t 32), none⟩]))
def sf_rsgn : SFn := ⟨3, 50,
  .seq (.reg [⟨(some 6), .mv (.k (.c .nil)), none⟩,
    ⟨(some 7), .mv (.k (.c (.d (.int .i64 0)))), none⟩])
  (.seq (.seq (.reg [⟨(some 15), .mv (.t 0), none⟩,
    ⟨(some 16), .mv (.t 1), none⟩,
    ⟨(some 17), .call 31 [(.t 15), (.t 16)] none, none⟩,
    ⟨(some 8), .mv (.t 17), none⟩])
  (.seq (.reg [⟨(some 18), .mv (.t 8), none⟩,
    ⟨(some 19), .bin .neq (.t 18) (.k (.c (.d (.int .i64 0)))), none⟩])
  (.cond (.t 19) (.seq (.reg [⟨(some 20), .mv (.t 8), none⟩,
     ⟨(some 6), .mv (.k (.c .nil)), none⟩,
     ⟨(some 7), .mv (.t 20), none⟩])
   (.ret))
   (.skip))))
  (.seq (.reg [⟨(some 22), .mv (.t 2), none⟩,
    ⟨(some 23), .call 10 [(.t 22)] none, none⟩,
    ⟨(some 21), .mv (.t 23), none⟩,
    ⟨(some 24), .extract (.t 21) 0, none⟩,
    ⟨(some 25), .extract (.t 21) 1, none⟩,
    ⟨(some 9), .mv (.t 24), none⟩,
    ⟨(some 10), .mv (.t 25), none⟩])
  (.seq (.seq (.reg [⟨(some 26), .mv (.t 10), none⟩,
    ⟨(some 27), .bin .neq (.t 26) (.k (.c (.d (.int .i64 0)))), none⟩])
  (.cond (.t 27) (.seq (.reg [⟨(some 28), .mv (.t 10), none⟩,
     ⟨(some 6), .mv (.k (.c .nil)), none⟩,
     ⟨(some 7), .mv (.t 28), none⟩])
   (.ret))
   (.skip)))
  (.seq (.reg [⟨(some 11), .mv (.k (.c .nil)), none⟩])
  (.seq (.seq (.reg [⟨(some 12), .mv (.k (.c (.d (.int .i64 0)))), none⟩])
  (.block 0 (.loop lp_rsgn_0)))
  (.seq (.reg [⟨(some 49), .mv (.t 11), none⟩,
    ⟨(some 6), .mv (.t 49), none⟩,
    ⟨(some 7), .mv (.k (.c (.d (.int .i64 0)))), none⟩])
  (.ret))))))),
  [(6, none), (7, none)]⟩
theorem cf_rsgn : compFn Tryd.prog { own := [], comp := [], frz := [], nils := [] } Tryd.f14 = some sf_rsgn := by kernel_rfl
set_option maxHeartbeats 3200000 in
theorem rsgn_f (G : Glob) (seed : List UInt8) (index : Int) (digest : List UInt8) (hd0 : digest.length ≤ 9223372036854775807) : Den Tryd.prog G 14 [.sl (seed.map bD), .int .i64 index, .sl (digest.map bD)] (.tup [.c (.fr 1 ((sigV seed index digest).map fun l => D.sl (l.map bD))), .c (.d (.int .i64 (sigE seed index digest)))]) := by
  refine den_walk Tryd.func14 cf_rsgn rfl rfl ?_
  have hk := rochk_c G seed index
  have hd := rdgs_c G digest hd0
  by_cases h : chkE seed index = 0
  · obtain ⟨k1, k2, k3⟩ := chkE_ok h
    rw [h] at hk
    by_cases hn : digest.length = 16
    · rw [(sigE_ok h hn).1, (sigE_ok h hn).2]
      rw [(dig_ok hn).1, (dig_ok hn).2] at hd
      obtain ⟨i, rfl⟩ := Int.eq_ofNat_of_zero_le k2
      have e1 : ((i : Int).toNat) = i := rfl
      rw [e1]
      simp only [sf_rsgn, putAll, wx, wy, wz, stV, seval, IntWalk.iteOmega, IntWalk.toNatUp, reduceCtorEq]
      refine st_call (hk) rfl (.inl rfl) ?_
      simp only [wx, wy, wz, stV, seval, IntWalk.iteOmega, IntWalk.toNatUp, reduceCtorEq]
      refine st_call (hd) rfl (.inl rfl) ?_
      simp only [wx, wy, wz, stV, seval, IntWalk.iteOmega, IntWalk.toNatUp, reduceCtorEq]
      refine loop_st (rsgSt seed i digest) (fun j => 35 - j) (fun j => j ≤ 35) 0 (Nat.zero_le _) ?_ ?_
      · refine ent_l (fun i => i) ?_ ?_ rfl rfl <;> simp only [wx, wex, wez, stV, seval, IntWalk.iteOmega, IntWalk.toNatUp, reduceCtorEq, sgV, sgH]
      · intro j hj
        by_cases hlt : j < 35
        · have hs := rsec_c G seed (i : Int) (j : Int)
          rw [(secV_ok k1 (by omega) hlt).1, (secV_ok k1 (by omega) hlt).2] at hs
          have hdl : (digN digest).length = 35 := by rw [digN_len, hn]
          have g1 := getI (l := digN digest) (j := j) (by omega)
          have hdd : (digN digest).getD j 0 = digA digest j := rfl
          have hle := digA_le hn j
          rw [hdd] at g1
          have hc := rchain_c G (secM seed i j) (by rw [secM_len]; decide) (digA digest j : Int)
          have hm : (min ((digA digest j : Nat) : Int) 65536).toNat = digA digest j := by omega
          rw [hm] at hc
          have hsn := sigN_succ seed i digest j
          have hll := sigN_len seed i digest (j + 1)
          rcases j with _ | j
          · have h0 : sigN seed i digest 0 = [] := rfl
            rw [h0] at hsn
            have hs2 : [D.sl ((chainK (secM seed i 0) (digA digest 0)).map bD)] = (sigN seed i digest 1).map fun l => D.sl (l.map bD) := by rw [← hsn]; rfl
            simp only [lp_rsgn_0, rsgSt, sgV, sgH, wx, wy, wz, stV, seval, IntWalk.iteOmega, IntWalk.toNatUp, reduceCtorEq, hdl, g1]
            refine st_call (hs) rfl (.inl rfl) ?_
            simp only [hdl, g1, wx, wy, wz, stV, seval, IntWalk.iteOmega, IntWalk.toNatUp, reduceCtorEq]
            refine st_call (hc) rfl (.inl rfl) ?_
            simp only [srcV, wx, wy, wz, stV, seval, IntWalk.iteOmega, IntWalk.toNatUp, reduceCtorEq]
            refine lop_next (0 + 1) (by omega) (by omega) (ent_l (fun _ => 384) ?_ ?_ rfl rfl) <;> simp only [wx, wex, wez, stV, seval, IntWalk.iteOmega, IntWalk.toNatUp, reduceCtorEq, sgV, sgH, hll, hs2]
          · have hs2 : ((sigN seed i digest (j + 1)).map fun l => D.sl (l.map bD)) ++ [D.sl ((chainK (secM seed i (j + 1)) (digA digest (j + 1))).map bD)] = (sigN seed i digest (j + 1 + 1)).map fun l => D.sl (l.map bD) := by rw [← hsn, List.map_append]; rfl
            have hlj := sigN_len seed i digest (j + 1)
            simp only [lp_rsgn_0, rsgSt, sgV, sgH, wx, wy, wz, stV, seval, IntWalk.iteOmega, IntWalk.toNatUp, reduceCtorEq, hdl, g1]
            refine st_call (hs) rfl (.inl rfl) ?_
            simp only [hdl, g1, wx, wy, wz, stV, seval, IntWalk.iteOmega, IntWalk.toNatUp, reduceCtorEq]
            refine st_call (hc) rfl (.inl rfl) ?_
            simp only [srcV, hs2, hlj, wx, wy, wz, stV, seval, IntWalk.iteOmega, IntWalk.toNatUp, reduceCtorEq]
            refine lop_next (j + 1 + 1) (by omega) (by omega) (ent_l (fun _ => 384) ?_ ?_ rfl rfl) <;> simp only [wx, wex, wez, stV, seval, IntWalk.iteOmega, IntWalk.toNatUp, reduceCtorEq, sgV, sgH, hll]
        · obtain rfl : j = 35 := by omega
          have hll := sigN_len seed i digest 35
          have hsm : sigN seed i digest 35 = sigM seed i digest := rfl
          rw [hsm] at hll
          simp only [lp_rsgn_0, rsgSt, sgV, sgH, wx, wy, wz, stV, seval, IntWalk.iteOmega, IntWalk.toNatUp, reduceCtorEq]
          exact ret_f2 (by simp only [wx, wy, wz, stV, seval, IntWalk.iteOmega, IntWalk.toNatUp, reduceCtorEq, hll, hsm]) (by simp only [wx, wy, wz, stV, seval, IntWalk.iteOmega, IntWalk.toNatUp, reduceCtorEq])
    · have hE : sigE seed index digest = 3 := by unfold sigE; rw [if_pos h]; exact (dig_no hn).1
      have hV : sigV seed index digest = [] := if_neg (by rw [hE]; decide)
      rw [hE, hV]
      rw [(dig_no hn).1, (dig_no hn).2] at hd
      simp only [sf_rsgn, putAll, wx, wy, wz, stV, seval, IntWalk.iteOmega, IntWalk.toNatUp, reduceCtorEq]
      refine st_call (hk) rfl (.inl rfl) ?_
      simp only [wx, wy, wz, stV, seval, IntWalk.iteOmega, IntWalk.toNatUp, reduceCtorEq]
      refine st_call (hd) rfl (.inl rfl) ?_
      simp only [wx, wy, wz, stV, seval, IntWalk.iteOmega, IntWalk.toNatUp, reduceCtorEq]
      exact ret_f2 (by simp only [wx, wy, wz, stV, seval, IntWalk.iteOmega, IntWalk.toNatUp, reduceCtorEq]) (by simp only [wx, wy, wz, stV, seval, IntWalk.iteOmega, IntWalk.toNatUp, reduceCtorEq])
  · have hE : sigE seed index digest = chkE seed index := if_neg h
    have hV : sigV seed index digest = [] := if_neg (by rw [hE]; exact h)
    rw [hE, hV]
    generalize chkE seed index = e at *
    simp only [sf_rsgn, putAll, wx, wy, wz, stV, seval, IntWalk.iteOmega, IntWalk.toNatUp, reduceCtorEq]
    refine st_call (hk) rfl (.inl rfl) ?_
    simp only [wx, wy, wz, stV, seval, IntWalk.iteOmega, IntWalk.toNatUp, reduceCtorEq]
    exact ret_f2 (by simp only [wx, wy, wz, stV, seval, IntWalk.iteOmega, IntWalk.toNatUp, reduceCtorEq]) (by simp only [wx, wy, wz, stV, seval, IntWalk.iteOmega, IntWalk.toNatUp, reduceCtorEq])
theorem den_roL8 {P : Program} {G : Glob} {F : FuncId} {args : List D} {l : List (List UInt8)} {y : D} (h : Den P G F args (.tup [.c (.fr 1 (l.map fun l => D.sl (l.map bD))), .c (.d y)])) : Den P G F args (.tup [.c (.d (.sl (l.map fun l => D.sl (l.map bD)))), .c (.d y)]) := den_ro2 h
theorem sgn_c (G : Glob) (hF : G.at 0 = some (.ra (firstK.map wD))) (hG : G.at 1 = some (.ra (constK.map wD))) (seed : List UInt8) (index : Int) (digest : List UInt8) (hd0 : digest.length ≤ 9223372036854775807) : Den Tryd.prog G 13 [.sl (seed.map bD), .int .i64 index, .sl (digest.map bD)] (.tup [.c (.d (.sl ((sigV seed index digest).map fun l => D.sl (l.map bD)))), .c (.d (.int .i64 (sigE seed index digest)))]) := den_roL8 (sgn_f G hF hG seed index digest hd0)
theorem rsgn_c (G : Glob) (seed : List UInt8) (index : Int) (digest : List UInt8) (hd0 : digest.length ≤ 9223372036854775807) : Den Tryd.prog G 14 [.sl (seed.map bD), .int .i64 index, .sl (digest.map bD)] (.tup [.c (.d (.sl ((sigV seed index digest).map fun l => D.sl (l.map bD)))), .c (.d (.int .i64 (sigE seed index digest)))]) := den_roL8 (rsgn_f G seed index digest hd0)
/-! ### What a signature gives back -/
def formB (s : List (List UInt8)) : Bool := decide (s.length = 35) && s.all fun x => decide (x.length = 16)
theorem formB_ok {s : List (List UInt8)} (h : formB s = true) : s.length = 35 ∧ ∀ x ∈ s, x.length = 16 := by
  unfold formB at h
  simp only [Bool.and_eq_true, decide_eq_true_eq, List.all_eq_true] at h
  exact h
theorem formB_1 {s : List (List UInt8)} (h : s.length ≠ 35) : formB s = false := by
  cases hf : formB s
  · rfl
  · exact absurd (formB_ok hf).1 h
theorem formB_2 {s : List (List UInt8)} {j : Nat} (hj : j < s.length) (h : ¬ (s.getD j []).length = 16) : formB s = false := by
  cases hf : formB s
  · rfl
  · exact absurd ((formB_ok hf).2 _ (getLs_mem hj)) h
theorem formB_3 {s : List (List UInt8)} (h1 : s.length = 35) (h : ∀ j, j < s.length → (s.getD j []).length = 16) : formB s = true := by
  unfold formB
  rw [decide_eq_true h1, Bool.true_and, List.all_eq_true]
  intro x hx
  obtain ⟨j, hj, rfl⟩ := List.getElem_of_mem hx
  have := h j hj
  rw [List.getD_eq_getElem?_getD, List.getElem?_eq_getElem hj] at this
  exact decide_eq_true this
def recE (digest : List UInt8) (s : List (List UInt8)) : Int := if dgtE digest = 0 then (if formB s = true then 0 else 3) else dgtE digest
def recV (digest : List UInt8) (s : List (List UInt8)) : List UInt8 := if recE digest s = 0 then recM digest s else []
def foSt (s : List (List UInt8)) (j : Nat) : St := ⟨ofL [(8, .w (.c (.d (sls s)))), (9, .w (.c (.d (.int .i64 35)))), (10, .w (.c (.d (.int .i64 (j : Int)))))], hL [], uL []⟩
def lp_frm_0 : SCode :=
  .seq (.reg [⟨(some 11), .bin .lss (.t 10) (.t 9), none⟩])
  (.seq (.cond (.t 11) (.skip)
   (.exit 0))
  (.seq (.block 1 (.seq (.reg [⟨(some 12), .idxSl 1 (.t 8) (.t 10), none⟩,
     ⟨(some 13), .load .sc (.t 12), none⟩,
     ⟨(some 4), .mv (.t 13), none⟩])
   (.seq (.reg [⟨(some 14), .mv (.t 4), none⟩,
     ⟨(some 15), .len (.t 14), none⟩,
     ⟨(some 16), .bin .neq (.t 15) (.k (.c (.d (.int .i64 16)))), none⟩])
   (.cond (.t 16) (.seq (.reg [⟨(some 2), .mv (.k (.c (.d (.bool false)))), none⟩])
    (.ret))
    (.skip)))))
  (.reg [⟨(some 17), .bin .add (.t 10) (.k (.c (.d (.int .i64 1)))), none⟩,
    ⟨(some 10), .mv (.t 17), none⟩])))
def sf_frm : SFn := ⟨1, 18,
  .seq (.reg [⟨(some 2), .mv (.k (.c (.d (.bool false)))), none⟩])
  (.seq (.seq (.reg [⟨(some 5), .mv (.t 0), none⟩,
    ⟨(some 6), .len (.t 5), none⟩,
    ⟨(some 7), .bin .neq (.t 6) (.k (.c (.d (.int .i64 35)))), none⟩])
  (.cond (.t 7) (.seq (.reg [⟨(some 2), .mv (.k (.c (.d (.bool false)))), none⟩])
   (.ret))
   (.skip)))
  (.seq (.seq (.reg [⟨(some 8), .mv (.t 0), none⟩,
    ⟨(some 9), .len (.t 8), none⟩,
    ⟨(some 10), .mv (.k (.c (.d (.int .i64 0)))), none⟩])
  (.block 0 (.loop lp_frm_0)))
  (.seq (.reg [⟨(some 2), .mv (.k (.c (.d (.bool true)))), none⟩])
  (.ret)))),
  [(2, none)]⟩
theorem cf_frm : compFn Tryd.prog { own := [], comp := [], frz := [], nils := [] } Tryd.f36 = some sf_frm := by kernel_rfl
set_option maxHeartbeats 1600000 in
theorem frm_c (G : Glob) (s : List (List UInt8)) (hl : s.length ≤ 9223372036854775807) (hb : ∀ x ∈ s, x.length ≤ 9223372036854775807) : Den Tryd.prog G 36 [sls s] (.w (.c (.d (.bool (formB s))))) := by
  refine den_walk Tryd.func36 cf_frm rfl rfl ?_
  by_cases h : s.length = 35
  · simp only [sf_frm, putAll, wx, wy, wz, stV, seval, IntWalk.iteOmega, IntWalk.toNatUp, reduceCtorEq, h]
    refine loop_st (foSt s) (fun j => 35 - j) (fun j => j ≤ 35 ∧ ∀ k, k < j → (s.getD k []).length = 16) 0 ⟨Nat.zero_le _, fun j hj => by omega⟩ ?_ ?_
    · refine ent_l (fun i => i) ?_ ?_ rfl rfl <;> simp only [wx, wex, wez, stV, seval, IntWalk.iteOmega, IntWalk.toNatUp, reduceCtorEq]
    · rintro j ⟨hj, hok⟩
      by_cases hlt : j < 35
      · have hlt' : j < s.length := by omega
        have g1 := getLs hlt'
        have hx := hb _ (getLs_mem hlt')
        by_cases hn : (s.getD j []).length = 16
        · simp only [lp_frm_0, foSt, wx, wy, wz, stV, seval, IntWalk.iteOmega, IntWalk.toNatUp, reduceCtorEq, h, get_map, g1, hn]
          refine lop_next (j + 1) (by omega) ⟨by omega, fun k hk => ?_⟩ (ent_l (fun i => i) ?_ ?_ rfl rfl)
          · rcases Nat.lt_or_ge k j with h | h
            · exact hok k h
            · obtain rfl : k = j := by omega
              exact hn
          all_goals simp only [wx, wex, wez, stV, seval, IntWalk.iteOmega, IntWalk.toNatUp, reduceCtorEq]
        · rw [formB_2 hlt' hn]
          simp only [lp_frm_0, foSt, wx, wy, wz, stV, seval, IntWalk.iteOmega, IntWalk.toNatUp, reduceCtorEq, h, get_map, g1]
          exact ret_d1 (by simp only [wx, wy, wz, stV, seval, IntWalk.iteOmega, IntWalk.toNatUp, reduceCtorEq])
      · rw [formB_3 h (fun k hk => hok k (by omega))]
        simp only [lp_frm_0, foSt, wx, wy, wz, stV, seval, IntWalk.iteOmega, IntWalk.toNatUp, reduceCtorEq]
        exact ret_d1 (by simp only [wx, wy, wz, stV, seval, IntWalk.iteOmega, IntWalk.toNatUp, reduceCtorEq])
  · rw [formB_1 h]
    simp only [sf_frm, putAll, wx, wy, wz, stV, seval, IntWalk.iteOmega, IntWalk.toNatUp, reduceCtorEq]
    exact ret_d1 (by simp only [wx, wy, wz, stV, seval, IntWalk.iteOmega, IntWalk.toNatUp, reduceCtorEq])
def recF (digest : List UInt8) (s : List (List UInt8)) (c : Nat) : List UInt8 := chainK (s.getD c []) (15 - digA digest c)
def rcSt (digest : List UInt8) (s : List (List UInt8)) (j : Nat) : St := ⟨ofL [(1, .w (.c (.d (sls s)))), (6, .w (.c (.d (.sl ((digN digest).map iD))))), (8, ebV j), (21, .w (.c (.d (.int .i64 (j : Int)))))], hL (ebH (recF digest s) j), uL [1]⟩
def lp_rec_0 : SCode :=
  .seq (.reg [⟨(some 22), .bin .lss (.t 21) (.k (.c (.d (.int .i64 35)))), none⟩])
  (.seq (.cond (.t 22) (.skip)
   (.exit 0))
  (.seq (.block 1 (.seq (.reg [⟨(some 23), .mv (.t 21), none⟩,
     ⟨(some 9), .mv (.t 23), none⟩])
   (.reg [⟨(some 24), .mv (.t 8), none⟩,
     ⟨(some 25), .mv (.t 1), none⟩,
     ⟨(some 26), .mv (.t 9), none⟩,
     ⟨(some 27), .idxSl 1 (.t 25) (.t 26), none⟩,
     ⟨(some 28), .load .sc (.t 27), none⟩,
     ⟨(some 29), .mv (.t 6), none⟩,
     ⟨(some 30), .mv (.t 9), none⟩,
     ⟨(some 31), .idxSl 1 (.t 29) (.t 30), none⟩,
     ⟨(some 32), .load .sc (.t 31), none⟩,
     ⟨(some 33), .bin .sub (.k (.c (.d (.int .i64 15)))) (.t 32), none⟩,
     ⟨(some 34), .call 25 [(.t 28), (.t 33)] none, none⟩,
     ⟨(some 35), .app false 1 1 (.t 24) (.t 34), none⟩,
     ⟨(some 8), .mv (.t 35), none⟩])))
  (.reg [⟨(some 36), .bin .add (.t 21) (.k (.c (.d (.int .i64 1)))), none⟩,
    ⟨(some 21), .mv (.t 36), none⟩])))
def sf_rec : SFn := ⟨2, 39,
  .seq (.reg [⟨(some 4), .mv (.k (.c .nil)), none⟩,
    ⟨(some 5), .mv (.k (.c (.d (.int .i64 0)))), none⟩])
  (.seq (.reg [⟨(some 11), .mv (.t 0), none⟩,
    ⟨(some 12), .call 9 [(.t 11)] none, none⟩,
    ⟨(some 10), .mv (.t 12), none⟩,
    ⟨(some 13), .extract (.t 10) 0, none⟩,
    ⟨(some 14), .extract (.t 10) 1, none⟩,
    ⟨(some 6), .mv (.t 13), none⟩,
    ⟨(some 7), .mv (.t 14), none⟩])
  (.seq (.seq (.reg [⟨(some 15), .mv (.t 7), none⟩,
    ⟨(some 16), .bin .neq (.t 15) (.k (.c (.d (.int .i64 0)))), none⟩])
  (.cond (.t 16) (.seq (.reg [⟨(some 17), .mv (.t 7), none⟩,
     ⟨(some 4), .mv (.k (.c .nil)), none⟩,
     ⟨(some 5), .mv (.t 17), none⟩])
   (.ret))
   (.skip)))
  (.seq (.seq (.reg [⟨(some 18), .mv (.t 1), none⟩,
    ⟨(some 19), .call 36 [(.t 18)] none, none⟩,
    ⟨(some 20), .un .not (.t 19), none⟩])
  (.cond (.t 20) (.seq (.reg [⟨(some 4), .mv (.k (.c .nil)), none⟩,
     ⟨(some 5), .mv (.k (.c (.d (.int .i64 3)))), none⟩])
   (.ret))
   (.skip)))
  (.seq (.reg [⟨(some 8), .mv (.k (.c .nil)), none⟩])
  (.seq (.seq (.reg [⟨(some 21), .mv (.k (.c (.d (.int .i64 0)))), none⟩])
  (.block 0 (.loop lp_rec_0)))
  (.seq (.reg [⟨(some 37), .mv (.t 8), none⟩,
    ⟨(some 38), .call 37 [(.t 37)] (some (0, 1)), none⟩,
    ⟨(some 4), .mv (.t 38), none⟩,
    ⟨(some 5), .mv (.k (.c (.d (.int .i64 0)))), none⟩])
  (.ret))))))),
  [(4, none), (5, none)]⟩
theorem cf_rec : compFn Tryd.prog { own := [38], comp := [], frz := [], nils := [] } Tryd.f15 = some sf_rec := by kernel_rfl
set_option maxHeartbeats 3200000 in
theorem rec_f (G : Glob) (hF : G.at 0 = some (.ra (firstK.map wD))) (hG : G.at 1 = some (.ra (constK.map wD))) (digest : List UInt8) (s : List (List UInt8)) (hd0 : digest.length ≤ 9223372036854775807) (hl0 : s.length ≤ 9223372036854775807) (hb : ∀ x ∈ s, x.length ≤ 9223372036854775807) : Den Tryd.prog G 15 [.sl (digest.map bD), sls s] (.tup [.c (.fr 1 ((recV digest s).map bD)), .c (.d (.int .i64 (recE digest s)))]) := by
  refine den_walk Tryd.func15 cf_rec rfl rfl ?_
  have hd := dgs_c G digest hd0
  have hf := frm_c G s hl0 hb
  by_cases hn : digest.length = 16
  · rw [(dig_ok hn).1, (dig_ok hn).2] at hd
    cases hfo : formB s
    · have hE : recE digest s = 3 := by unfold recE; rw [if_pos (dig_ok hn).1, hfo]; rfl
      have hV : recV digest s = [] := if_neg (by rw [hE]; decide)
      rw [hE, hV]
      rw [hfo] at hf
      simp only [sf_rec, putAll, wx, wy, wz, stV, seval, IntWalk.iteOmega, IntWalk.toNatUp, reduceCtorEq]
      refine st_call (hd) rfl (.inl rfl) ?_
      simp only [wx, wy, wz, stV, seval, IntWalk.iteOmega, IntWalk.toNatUp, reduceCtorEq]
      refine st_call (hf) rfl (.inl rfl) ?_
      simp only [wx, wy, wz, stV, seval, IntWalk.iteOmega, IntWalk.toNatUp, reduceCtorEq]
      exact ret_f2 (by simp only [wx, wy, wz, stV, seval, IntWalk.iteOmega, IntWalk.toNatUp, reduceCtorEq]) (by simp only [wx, wy, wz, stV, seval, IntWalk.iteOmega, IntWalk.toNatUp, reduceCtorEq])
    · have hE : recE digest s = 0 := by unfold recE; rw [if_pos (dig_ok hn).1, hfo]; rfl
      have hV : recV digest s = recM digest s := if_pos hE
      rw [hE, hV]
      rw [hfo] at hf
      obtain ⟨q1, q2⟩ := formB_ok hfo
      have q3 : ∀ j, j < 35 → (s.getD j []).length = 16 := fun j hj => q2 _ (getLs_mem (by omega))
      have q4 : ∀ j, j < 35 → (recF digest s j).length = 16 := fun j hj => chain16 (q3 j hj) _
      simp only [sf_rec, putAll, wx, wy, wz, stV, seval, IntWalk.iteOmega, IntWalk.toNatUp, reduceCtorEq]
      refine st_call (hd) rfl (.inl rfl) ?_
      simp only [wx, wy, wz, stV, seval, IntWalk.iteOmega, IntWalk.toNatUp, reduceCtorEq]
      refine st_call (hf) rfl (.inl rfl) ?_
      simp only [wx, wy, wz, stV, seval, IntWalk.iteOmega, IntWalk.toNatUp, reduceCtorEq]
      refine loop_st (rcSt digest s) (fun j => 35 - j) (fun j => j ≤ 35) 0 (Nat.zero_le _) ?_ ?_
      · refine ent_l (fun i => i) ?_ ?_ rfl rfl <;> simp only [wx, wex, wez, stV, seval, IntWalk.iteOmega, IntWalk.toNatUp, reduceCtorEq, ebV, ebH]
      · intro j hj
        by_cases hlt : j < 35
        · have g0 := getLs (l := s) (j := j) (by omega)
          have hdl : (digN digest).length = 35 := by rw [digN_len, hn]
          have g1 := getI (l := digN digest) (j := j) (by omega)
          have hdd : (digN digest).getD j 0 = digA digest j := rfl
          have hle := digA_le hn j
          rw [hdd] at g1
          have hc := chain_c G hF hG (s.getD j []) (by rw [q3 j hlt]; decide) (15 - (digA digest j : Int))
          have hm : (min (15 - ((digA digest j : Nat) : Int)) 65536).toNat = 15 - digA digest j := by omega
          have hm2 : chainK (s.getD j []) (15 - digA digest j) = recF digest s j := rfl
          rw [hm, hm2] at hc
          have hl := q4 j hlt
          rcases j with _ | j
          · have h0 := ends_1 (recF digest s)
            rw [h0] at hc hl
            simp only [lp_rec_0, rcSt, ebV, ebH, wx, wy, wz, stV, seval, IntWalk.iteOmega, IntWalk.toNatUp, reduceCtorEq, q1, get_map, g0, hdl, g1]
            refine st_call (hc) rfl (.inl rfl) ?_
            simp only [srcV, hl, wx, wy, wz, stV, seval, IntWalk.iteOmega, IntWalk.toNatUp, reduceCtorEq]
            refine lop_next (0 + 1) (by omega) (by omega) (ent_l (fun _ => 280) ?_ ?_ rfl rfl) <;> simp only [wx, wex, wez, stV, seval, IntWalk.iteOmega, IntWalk.toNatUp, reduceCtorEq, ebV, ebH, hl]
          · have h0 := ends_map (recF digest s) (j + 1)
            have hl1 : (endsM (recF digest s) (j + 1)).length = 16 * (j + 1) := ends_len fun i hi => q4 i (by omega)
            have hl2 : (endsM (recF digest s) (j + 1 + 1)).length = 16 * (j + 1 + 1) := ends_len fun i hi => q4 i (by omega)
            simp only [lp_rec_0, rcSt, ebV, ebH, wx, wy, wz, stV, seval, IntWalk.iteOmega, IntWalk.toNatUp, reduceCtorEq, q1, get_map, g0, hdl, g1]
            refine st_call (hc) rfl (.inl rfl) ?_
            simp only [srcV, hl, hl1, hl2, h0, wx, wy, wz, stV, seval, IntWalk.iteOmega, IntWalk.toNatUp, reduceCtorEq]
            refine lop_next (j + 1 + 1) (by omega) (by omega) (ent_l (fun _ => 280) ?_ ?_ rfl rfl) <;> simp only [wx, wex, wez, stV, seval, IntWalk.iteOmega, IntWalk.toNatUp, reduceCtorEq, ebV, ebH, hl2]
        · obtain rfl : j = 35 := by omega
          have hl : (endsM (recF digest s) 35).length = 560 := ends_len q4
          have hh := short_c G hF hG (endsM (recF digest s) 35) (by omega)
          have hm : shortK (endsM (recF digest s) 35) = recM digest s := rfl
          rw [hm] at hh
          have ht : (endsM (recF digest s) 35).take 560 = endsM (recF digest s) 35 := List.take_of_length_le (by omega)
          simp only [lp_rec_0, rcSt, ebV, ebH, wx, wy, wz, stV, seval, IntWalk.iteOmega, IntWalk.toNatUp, reduceCtorEq]
          generalize endsM (recF digest s) 35 = z at *
          refine st_call hh (by simp only [wx, wy, wz, stV, seval, IntWalk.iteOmega, IntWalk.toNatUp, reduceCtorEq, hl, ht]) (.inr (fl_b _ _)) ?_
          simp only [wx, wy, wz, stV, seval, IntWalk.iteOmega, IntWalk.toNatUp, reduceCtorEq]
          exact ret_f2 (by simp only [wx, wy, wz, stV, seval, IntWalk.iteOmega, IntWalk.toNatUp, reduceCtorEq]) (by simp only [wx, wy, wz, stV, seval, IntWalk.iteOmega, IntWalk.toNatUp, reduceCtorEq])
  · have hE : recE digest s = 3 := by unfold recE; rw [(dig_no hn).1]; rfl
    have hV : recV digest s = [] := if_neg (by rw [hE]; decide)
    rw [hE, hV]
    rw [(dig_no hn).1, (dig_no hn).2] at hd
    simp only [sf_rec, putAll, wx, wy, wz, stV, seval, IntWalk.iteOmega, IntWalk.toNatUp, reduceCtorEq]
    refine st_call (hd) rfl (.inl rfl) ?_
    simp only [wx, wy, wz, stV, seval, IntWalk.iteOmega, IntWalk.toNatUp, reduceCtorEq]
    exact ret_f2 (by simp only [wx, wy, wz, stV, seval, IntWalk.iteOmega, IntWalk.toNatUp, reduceCtorEq]) (by simp only [wx, wy, wz, stV, seval, IntWalk.iteOmega, IntWalk.toNatUp, reduceCtorEq])
theorem rec_c (G : Glob) (hF : G.at 0 = some (.ra (firstK.map wD))) (hG : G.at 1 = some (.ra (constK.map wD))) (digest : List UInt8) (s : List (List UInt8)) (hd0 : digest.length ≤ 9223372036854775807) (hl0 : s.length ≤ 9223372036854775807) (hb : ∀ x ∈ s, x.length ≤ 9223372036854775807) : Den Tryd.prog G 15 [.sl (digest.map bD), sls s] (.tup [.c (.d (.sl ((recV digest s).map bD))), .c (.d (.int .i64 (recE digest s)))]) := den_ro2 (rec_f G hF hG digest s hd0 hl0 hb)
def rrcSt (digest : List UInt8) (s : List (List UInt8)) (j : Nat) : St := ⟨ofL [(1, .w (.c (.d (sls s)))), (6, .w (.c (.d (.sl ((digN digest).map iD))))), (8, .w (.c (.own 1 1 0 (16 * j)))), (9, .w (.c (.d (.int .i64 (j : Int)))))], hL [(1, .row 1 ((endsM (recF digest s) j).map bD))], uL [1]⟩
def lp_rrec_0 : SCode :=
  .seq (.seq (.reg [⟨(some 22), .mv (.t 9), none⟩,
    ⟨(some 23), .bin .lss (.t 22) (.k (.c (.d (.int .i64 35)))), none⟩])
  (.cond (.t 23) (.skip)
   (.exit 0)))
  (.seq (.block 1 (.seq (.seq (.reg [⟨(some 26), .mv (.t 1), none⟩,
     ⟨(some 27), .mv (.t 9), none⟩,
     ⟨(some 28), .idxSl 1 (.t 26) (.t 27), none⟩,
     ⟨(some 29), .load .sc (.t 28), none⟩,
     ⟨(some 30), .len (.t 29), none⟩,
     ⟨(some 31), .bin .neq (.t 30) (.k (.c (.d (.int .i64 16)))), none⟩])
   (.cond (.t 31) (.seq (.reg [⟨(some 4), .mv (.k (.c .nil)), none⟩,
      ⟨(some 5), .mv (.k (.c (.d (.int .i64 3)))), none⟩])
    (.ret))
    (.skip)))
   (.reg [⟨(some 32), .mv (.t 8), none⟩,
     ⟨(some 33), .mv (.t 1), none⟩,
     ⟨(some 34), .mv (.t 9), none⟩,
     ⟨(some 35), .idxSl 1 (.t 33) (.t 34), none⟩,
     ⟨(some 36), .load .sc (.t 35), none⟩,
     ⟨(some 37), .mv (.t 6), none⟩,
     ⟨(some 38), .mv (.t 9), none⟩,
     ⟨(some 39), .idxSl 1 (.t 37) (.t 38), none⟩,
     ⟨(some 40), .load .sc (.t 39), none⟩,
     ⟨(some 41), .bin .sub (.k (.c (.d (.int .i64 15)))) (.t 40), none⟩,
     ⟨(some 42), .call 35 [(.t 36), (.t 41)] none, none⟩,
     ⟨(some 43), .app false 1 1 (.t 32) (.t 42), none⟩,
     ⟨(some 8), .mv (.t 43), none⟩])))
  (.reg [⟨(some 24), .mv (.t 9), none⟩,
    ⟨(some 25), .bin .add (.t 24) (.k (.c (.d (.int .i64 1)))), none⟩,
    ⟨(some 9), .mv (.t 25), none⟩]))
def sf_rrec : SFn := ⟨2, 46,
  .seq (.reg [⟨(some 4), .mv (.k (.c .nil)), none⟩,
    ⟨(some 5), .mv (.k (.c (.d (.int .i64 0)))), none⟩])
  (.seq (.reg [⟨(some 11), .mv (.t 0), none⟩,
    ⟨(some 12), .call 10 [(.t 11)] none, none⟩,
    ⟨(some 10), .mv (.t 12), none⟩,
    ⟨(some 13), .extract (.t 10) 0, none⟩,
    ⟨(some 14), .extract (.t 10) 1, none⟩,
    ⟨(some 6), .mv (.t 13), none⟩,
    ⟨(some 7), .mv (.t 14), none⟩])
  (.seq (.seq (.reg [⟨(some 15), .mv (.t 7), none⟩,
    ⟨(some 16), .bin .neq (.t 15) (.k (.c (.d (.int .i64 0)))), none⟩])
  (.cond (.t 16) (.seq (.reg [⟨(some 17), .mv (.t 7), none⟩,
     ⟨(some 4), .mv (.k (.c .nil)), none⟩,
     ⟨(some 5), .mv (.t 17), none⟩])
   (.ret))
   (.skip)))
  (.seq (.seq (.reg [⟨(some 18), .mv (.t 1), none⟩,
    ⟨(some 19), .len (.t 18), none⟩,
    ⟨(some 20), .bin .neq (.t 19) (.k (.c (.d (.int .i64 35)))), none⟩])
  (.cond (.t 20) (.seq (.reg [⟨(some 4), .mv (.k (.c .nil)), none⟩,
     ⟨(some 5), .mv (.k (.c (.d (.int .i64 3)))), none⟩])
   (.ret))
   (.skip)))
  (.seq (.reg [⟨(some 21), .bldSl true 0 1 (.int .u8 0) [], none⟩,
    ⟨(some 8), .mv (.t 21), none⟩])
  (.seq (.seq (.reg [⟨(some 9), .mv (.k (.c (.d (.int .i64 0)))), none⟩])
  (.block 0 (.loop lp_rrec_0)))
  (.seq (.reg [⟨(some 44), .mv (.t 8), none⟩,
    ⟨(some 45), .call 32 [(.t 44)] (some (0, 1)), none⟩,
    ⟨(some 4), .mv (.t 45), none⟩,
    ⟨(some 5), .mv (.k (.c (.d (.int .i64 0)))), none⟩])
  (.ret))))))),
  [(4, none), (5, none)]⟩
theorem cf_rrec : compFn Tryd.prog { own := [21, 45], comp := [], frz := [], nils := [] } Tryd.f16 = some sf_rrec := by kernel_rfl
set_option maxHeartbeats 3200000 in
theorem rrec_f (G : Glob) (digest : List UInt8) (s : List (List UInt8)) (hd0 : digest.length ≤ 9223372036854775807) (hl0 : s.length ≤ 9223372036854775807) (hb : ∀ x ∈ s, x.length ≤ 9223372036854775807) : Den Tryd.prog G 16 [.sl (digest.map bD), sls s] (.tup [.c (.fr 1 ((recV digest s).map bD)), .c (.d (.int .i64 (recE digest s)))]) := by
  refine den_walk Tryd.func16 cf_rrec rfl rfl ?_
  have hd := rdgs_c G digest hd0
  by_cases hn : digest.length = 16
  · rw [(dig_ok hn).1, (dig_ok hn).2] at hd
    by_cases q1 : s.length = 35
    · simp only [sf_rrec, putAll, wx, wy, wz, stV, seval, IntWalk.iteOmega, IntWalk.toNatUp, reduceCtorEq, q1]
      refine st_call (hd) rfl (.inl rfl) ?_
      simp only [q1, wx, wy, wz, stV, seval, IntWalk.iteOmega, IntWalk.toNatUp, reduceCtorEq]
      refine loop_st (rrcSt digest s) (fun j => 35 - j) (fun j => j ≤ 35 ∧ ∀ k, k < j → (s.getD k []).length = 16) 0 ⟨Nat.zero_le _, fun j hj => by omega⟩ ?_ ?_
      · refine ent_l (fun _ => 168) ?_ ?_ rfl rfl <;> simp only [wx, wex, wez, stV, seval, IntWalk.iteOmega, IntWalk.toNatUp, reduceCtorEq, endsM, List.range_zero]
      · rintro j ⟨hj, hok⟩
        have q4 : ∀ k, k < j → (recF digest s k).length = 16 := fun k hk => chain16 (hok k hk) _
        have hl1 : (endsM (recF digest s) j).length = 16 * j := ends_len q4
        by_cases hlt : j < 35
        · have hlt' : j < s.length := by omega
          have g0 := getLs hlt'
          have hx := hb _ (getLs_mem hlt')
          by_cases hsn : (s.getD j []).length = 16
          · have hdl : (digN digest).length = 35 := by rw [digN_len, hn]
            have g1 := getI (l := digN digest) (j := j) (by omega)
            have hdd : (digN digest).getD j 0 = digA digest j := rfl
            have hle := digA_le hn j
            rw [hdd] at g1
            have hc := rchain_c G (s.getD j []) (by rw [hsn]; decide) (15 - (digA digest j : Int))
            have hm : (min (15 - ((digA digest j : Nat) : Int)) 65536).toNat = 15 - digA digest j := by omega
            have hm2 : chainK (s.getD j []) (15 - digA digest j) = recF digest s j := rfl
            rw [hm, hm2] at hc
            have hl : (recF digest s j).length = 16 := chain16 hsn _
            have h0 := ends_map (recF digest s) j
            have hl2 : (endsM (recF digest s) (j + 1)).length = 16 * (j + 1) := ends_len fun k hk => by
              rcases Nat.lt_or_ge k j with h | h
              · exact q4 k h
              · obtain rfl : k = j := by omega
                exact hl
            simp only [lp_rrec_0, rrcSt, wx, wy, wz, stV, seval, IntWalk.iteOmega, IntWalk.toNatUp, reduceCtorEq, q1, get_map, g0, hsn, hdl, g1]
            refine st_call (hc) rfl (.inl rfl) ?_
            simp only [srcV, hl, hl1, hl2, h0, wx, wy, wz, stV, seval, IntWalk.iteOmega, IntWalk.toNatUp, reduceCtorEq]
            refine lop_next (j + 1) (by omega) ⟨by omega, fun k hk => ?_⟩ (ent_l (fun _ => 344) ?_ ?_ rfl rfl)
            · rcases Nat.lt_or_ge k j with h | h
              · exact hok k h
              · obtain rfl : k = j := by omega
                exact hsn
            all_goals simp only [wx, wex, wez, stV, seval, IntWalk.iteOmega, IntWalk.toNatUp, reduceCtorEq, hl2]
          · have hfo := formB_2 hlt' hsn
            have hE : recE digest s = 3 := by unfold recE; rw [if_pos (dig_ok hn).1, hfo]; rfl
            have hV : recV digest s = [] := if_neg (by rw [hE]; decide)
            rw [hE, hV]
            simp only [lp_rrec_0, rrcSt, wx, wy, wz, stV, seval, IntWalk.iteOmega, IntWalk.toNatUp, reduceCtorEq, q1, get_map, g0]
            exact ret_f2 (by simp only [wx, wy, wz, stV, seval, IntWalk.iteOmega, IntWalk.toNatUp, reduceCtorEq]) (by simp only [wx, wy, wz, stV, seval, IntWalk.iteOmega, IntWalk.toNatUp, reduceCtorEq])
        · obtain rfl : j = 35 := by omega
          have hfo : formB s = true := formB_3 q1 (fun k hk => hok k (by omega))
          have hE : recE digest s = 0 := by unfold recE; rw [if_pos (dig_ok hn).1, hfo]; rfl
          have hV : recV digest s = recM digest s := if_pos hE
          rw [hE, hV]
          have hl : (endsM (recF digest s) 35).length = 560 := hl1
          have hh := rshF_f G (endsM (recF digest s) 35) (by omega)
          have hm : shortK (endsM (recF digest s) 35) = recM digest s := rfl
          rw [hm] at hh
          have ht : (endsM (recF digest s) 35).take 560 = endsM (recF digest s) 35 := List.take_of_length_le (by omega)
          simp only [lp_rrec_0, rrcSt, wx, wy, wz, stV, seval, IntWalk.iteOmega, IntWalk.toNatUp, reduceCtorEq]
          generalize endsM (recF digest s) 35 = z at *
          refine st_call hh (by simp only [wx, wy, wz, stV, seval, IntWalk.iteOmega, IntWalk.toNatUp, reduceCtorEq, hl, ht]) (.inr (fl_b _ _)) ?_
          simp only [wx, wy, wz, stV, seval, IntWalk.iteOmega, IntWalk.toNatUp, reduceCtorEq]
          exact ret_f2 (by simp only [wx, wy, wz, stV, seval, IntWalk.iteOmega, IntWalk.toNatUp, reduceCtorEq]) (by simp only [wx, wy, wz, stV, seval, IntWalk.iteOmega, IntWalk.toNatUp, reduceCtorEq])
    · have hfo := formB_1 q1
      have hE : recE digest s = 3 := by unfold recE; rw [if_pos (dig_ok hn).1, hfo]; rfl
      have hV : recV digest s = [] := if_neg (by rw [hE]; decide)
      rw [hE, hV]
      simp only [sf_rrec, putAll, wx, wy, wz, stV, seval, IntWalk.iteOmega, IntWalk.toNatUp, reduceCtorEq]
      refine st_call (hd) rfl (.inl rfl) ?_
      simp only [wx, wy, wz, stV, seval, IntWalk.iteOmega, IntWalk.toNatUp, reduceCtorEq]
      exact ret_f2 (by simp only [wx, wy, wz, stV, seval, IntWalk.iteOmega, IntWalk.toNatUp, reduceCtorEq]) (by simp only [wx, wy, wz, stV, seval, IntWalk.iteOmega, IntWalk.toNatUp, reduceCtorEq])
  · have hE : recE digest s = 3 := by unfold recE; rw [(dig_no hn).1]; rfl
    have hV : recV digest s = [] := if_neg (by rw [hE]; decide)
    rw [hE, hV]
    rw [(dig_no hn).1, (dig_no hn).2] at hd
    simp only [sf_rrec, putAll, wx, wy, wz, stV, seval, IntWalk.iteOmega, IntWalk.toNatUp, reduceCtorEq]
    refine st_call (hd) rfl (.inl rfl) ?_
    simp only [wx, wy, wz, stV, seval, IntWalk.iteOmega, IntWalk.toNatUp, reduceCtorEq]
    exact ret_f2 (by simp only [wx, wy, wz, stV, seval, IntWalk.iteOmega, IntWalk.toNatUp, reduceCtorEq]) (by simp only [wx, wy, wz, stV, seval, IntWalk.iteOmega, IntWalk.toNatUp, reduceCtorEq])
theorem rrec_c (G : Glob) (digest : List UInt8) (s : List (List UInt8)) (hd0 : digest.length ≤ 9223372036854775807) (hl0 : s.length ≤ 9223372036854775807) (hb : ∀ x ∈ s, x.length ≤ 9223372036854775807) : Den Tryd.prog G 16 [.sl (digest.map bD), sls s] (.tup [.c (.d (.sl ((recV digest s).map bD))), .c (.d (.int .i64 (recE digest s)))]) := den_ro2 (rrec_f G digest s hd0 hl0 hb)
end Go.Proofs.YtgepbpcolddgoaaDoor
