/- Texts of one's own, merged: from: Layer 6 on data: tags, sealed bytes, opened ones; both codes. Own work. -/
import Derived.Shelf.Abstract
import Derived.Test.YtipjekggnanffaaMg10
import Derived.Test.YtipjekggnanffaaMg11
import Derived.Test.YtipjekggnanffaaMg12
import Derived.Test.YtipjekggnanffaaMg9
set_option linter.unusedVariables false
set_option linter.unusedSimpArgs false
namespace Go.Proofs.Ytipjekggnanffaa
open Go.RowKit

/-! ### Models -/
def ctrT (tag : List UInt8) : List UInt8 := (tag.set 8 (andB (tag.getD 8 0) 127)).set 12 (andB (tag.getD 12 0) 127)
theorem ctrT_len (tag : List UInt8) : (ctrT tag).length = tag.length := by unfold ctrT; rw [List.length_set, List.length_set]
def tagM (key : List UInt8) (ad : List (List UInt8)) (b : List UInt8) : List UInt8 := vecM (rkK (key.take 16)) (ad ++ [b])
theorem tagM_len (key : List UInt8) (ad : List (List UInt8)) (b : List UInt8) : (tagM key ad b).length = 16 := vecM_len _ _
def strS (key tag b : List UInt8) : List UInt8 := strmC (rkK (key.drop 16)) (ctrT tag) b
theorem strS_len (key tag b : List UInt8) : (strS key tag b).length = b.length := strmC_len _ _ _
def longA (l : List (List UInt8)) : Bool := l.any fun x => decide (65519 < x.length)
def aeE (key : List UInt8) (ad : List (List UInt8)) (n : Int) : Int := if key.length ≠ 32 then 5 else if 16 < ad.length then 8 else if longA ad = true ∨ 65519 < n then 2 else 0
def tagV (key : List UInt8) (ad : List (List UInt8)) (b : List UInt8) : List UInt8 := if aeE key ad b.length = 0 then tagM key ad b else []
def sealV (key : List UInt8) (ad : List (List UInt8)) (b : List UInt8) : List UInt8 := if aeE key ad b.length = 0 then tagM key ad b ++ strS key (tagM key ad b) b else []
def opnE (key : List UInt8) (ad : List (List UInt8)) (s : List UInt8) : Int :=
  if aeE key ad ((s.length : Int) - 16) ≠ 0 then aeE key ad ((s.length : Int) - 16) else if s.length < 16 then 1 else if s.take 16 = tagM key ad (strS key (s.take 16) (s.drop 16)) then 0 else 6
def opnV (key : List UInt8) (ad : List (List UInt8)) (s : List UInt8) : List UInt8 := if opnE key ad s = 0 then strS key (s.take 16) (s.drop 16) else []
theorem longA_no {l : List (List UInt8)} (h : ∀ j, j < l.length → (l.getD j []).length ≤ 65519) : longA l = false := by
  unfold longA
  rw [List.any_eq_false]
  intro x hx
  obtain ⟨j, hj, rfl⟩ := List.getElem_of_mem hx
  have := h j hj
  rw [List.getD_eq_getElem?_getD, List.getElem?_eq_getElem hj] at this
  simpa using this
theorem longA_yes {l : List (List UInt8)} {j : Nat} (hj : j < l.length) (h : 65519 < (l.getD j []).length) : longA l = true := by
  unfold longA
  rw [List.any_eq_true]
  exact ⟨_, getLs_mem hj, decide_eq_true h⟩
theorem longA_all {l : List (List UInt8)} (h : longA l = false) : ∀ x ∈ l, x.length ≤ 65519 := by
  unfold longA at h
  rw [List.any_eq_false] at h
  intro x hx
  simpa using h x hx
/-- What is known where there is no error. -/
theorem aeE_ok {key : List UInt8} {ad : List (List UInt8)} {n : Int} (h : aeE key ad n = 0) : key.length = 32 ∧ ad.length ≤ 16 ∧ longA ad = false ∧ n ≤ 65519 := by
  unfold aeE at h
  split at h
  · cases h
  · split at h
    · cases h
    · split at h
      · cases h
      · rename_i h1 h2 h3
        cases hl : longA ad
        · exact ⟨by omega, by omega, rfl, by omega⟩
        · exact absurd (.inl hl) h3
theorem aeE_val (key : List UInt8) (ad : List (List UInt8)) (n : Int) : aeE key ad n = 0 ∨ aeE key ad n = 5 ∨ aeE key ad n = 8 ∨ aeE key ad n = 2 := by
  unfold aeE
  split
  · exact .inr (.inl rfl)
  · split
    · exact .inr (.inr (.inl rfl))
    · split
      · exact .inr (.inr (.inr rfl))
      · exact .inl rfl
theorem vctV_ok {k : List UInt8} {l : List (List UInt8)} (h : k.length = 16) (hn : l.length ≤ 17) (hl : ∀ x ∈ l, x.length ≤ 65535) : vctV k l = vecM (rkK k) l ∧ vctE k l = 0 := by
  have : longL l = false := by
    unfold longL
    rw [List.any_eq_false]
    intro x hx
    have := hl x hx
    simpa using this
  refine ⟨if_pos ⟨h, hn, this⟩, ?_⟩
  unfold vctE
  rw [if_neg (by omega), if_neg (by omega), this, if_neg (by simp)]
theorem strmVE_ok {k c b : List UInt8} (h : k.length = 16) (hc : c.length = 16) (hb : b.length ≤ 65535) : strmV k c b = strmC (rkK k) c b ∧ strmE k c b = 0 := by
  refine ⟨if_pos ⟨h, hc, hb⟩, ?_⟩
  unfold strmE
  rw [if_neg (by omega), if_neg (by omega), if_neg (by omega)]
theorem ad_all {ad : List (List UInt8)} {b : List UInt8} (h : longA ad = false) (hb : b.length ≤ 65519) : ∀ x ∈ ad ++ [b], x.length ≤ 65535 := by
  intro x hx
  rcases List.mem_append.1 hx with hx | hx
  · have := longA_all h x hx; omega
  · simp only [List.mem_singleton] at hx; subst hx; omega
/-! ### The program -/
def sf_beq : SFn := ⟨2, 10,
  .seq (.reg [⟨(some 4), .mv (.k (.c (.d (.bool false)))), none⟩])
  (.seq (.reg [⟨(some 5), .mv (.t 0), none⟩,
    ⟨(some 6), .b2s (.t 5), none⟩,
    ⟨(some 7), .mv (.t 1), none⟩,
    ⟨(some 8), .b2s (.t 7), none⟩,
    ⟨(some 9), .bin .eql (.t 6) (.t 8), none⟩,
    ⟨(some 4), .mv (.t 9), none⟩])
  (.ret)),
  [(4, none)]⟩
theorem cf_beq : compFn Try.prog { own := [], comp := [], frz := [], nils := [] } Try.f54 = some sf_beq := by kernel_rfl
theorem beq_c (G : Glob) (l m : List UInt8) : Den Try.prog G 54 [.sl (l.map bD), .sl (m.map bD)] (.w (.c (.d (.bool (l == m))))) := by
  refine den_walk Try.func54 cf_beq rfl rfl ?_
  simp only [sf_beq, putAll, wx, stV, seval, IntWalk.iteOmega, IntWalk.toNatUp, reduceCtorEq, ofBs_map, binS_same]
  exact ret_d (by simp only [wx, stV, seval, IntWalk.iteOmega, IntWalk.toNatUp, reduceCtorEq])
def sf_same : SFn := ⟨2, 8,
  .seq (.reg [⟨(some 4), .mv (.k (.c (.d (.bool false)))), none⟩])
  (.seq (.reg [⟨(some 5), .mv (.t 0), none⟩,
    ⟨(some 6), .mv (.t 1), none⟩,
    ⟨(some 7), .call 54 [(.t 5), (.t 6)] none, none⟩,
    ⟨(some 4), .mv (.t 7), none⟩])
  (.ret)),
  [(4, none)]⟩
theorem cf_same : compFn Try.prog { own := [], comp := [], frz := [], nils := [] } Try.f33 = some sf_same := by kernel_rfl
theorem same_c (G : Glob) (l m : List UInt8) : Den Try.prog G 33 [.sl (l.map bD), .sl (m.map bD)] (.w (.c (.d (.bool (l == m))))) := by
  refine den_walk Try.func33 cf_same rfl rfl ?_
  simp only [sf_same, putAll, wx, wy, wz, stV, seval, IntWalk.iteOmega, IntWalk.toNatUp, reduceCtorEq]
  refine st_call (beq_c G l m) rfl (.inl rfl) ?_
  simp only [wx, wy, wz, stV, seval, IntWalk.iteOmega, IntWalk.toNatUp, reduceCtorEq]
  exact ret_d1 (by simp only [wx, wy, wz, stV, seval, IntWalk.iteOmega, IntWalk.toNatUp, reduceCtorEq])
def sf_chkl : SFn := ⟨1, 6,
  .seq (.reg [⟨(some 2), .mv (.k (.c (.d (.bool false)))), none⟩])
  (.seq (.reg [⟨(some 3), .mv (.t 0), none⟩,
    ⟨(some 4), .len (.t 3), none⟩,
    ⟨(some 5), .bin .gtr (.t 4) (.k (.c (.d (.int .i64 65519)))), none⟩,
    ⟨(some 2), .mv (.t 5), none⟩])
  (.ret)),
  [(2, none)]⟩
theorem cf_chkl : compFn Try.prog { own := [], comp := [], frz := [], nils := [] } Try.f43 = some sf_chkl := by kernel_rfl
theorem chkl_c (G : Glob) (x : List UInt8) (hx : x.length ≤ 9223372036854775807) : DenF Try.prog G 43 [] [.sl (x.map bD)] (.w (.c (.d (.bool (decide (65519 < x.length)))))) := by
  refine ⟨enters_of Try.func43 (by kernel_rfl) rfl, ?_⟩
  refine den_walk Try.func43 cf_chkl rfl rfl ?_
  by_cases h : 65519 < x.length
  · have hd : decide (65519 < x.length) = true := decide_eq_true h
    rw [hd]
    simp only [sf_chkl, putAll, wx, wy, wz, stV, seval, IntWalk.iteOmega, IntWalk.toNatUp, reduceCtorEq]
    exact ret_d1 (by simp only [wx, wy, wz, stV, seval, IntWalk.iteOmega, IntWalk.toNatUp, reduceCtorEq])
  · have hd : decide (65519 < x.length) = false := decide_eq_false h
    rw [hd]
    simp only [sf_chkl, putAll, wx, wy, wz, stV, seval, IntWalk.iteOmega, IntWalk.toNatUp, reduceCtorEq]
    exact ret_d1 (by simp only [wx, wy, wz, stV, seval, IntWalk.iteOmega, IntWalk.toNatUp, reduceCtorEq])
def sf_chk : SFn := ⟨3, 21,
  .seq (.reg [⟨(some 6), .mv (.k (.c (.d (.int .i64 0)))), none⟩])
  (.seq (.seq (.reg [⟨(some 8), .mv (.t 0), none⟩,
    ⟨(some 9), .len (.t 8), none⟩,
    ⟨(some 10), .bin .neq (.t 9) (.k (.c (.d (.int .i64 32)))), none⟩])
  (.cond (.t 10) (.seq (.reg [⟨(some 6), .mv (.k (.c (.d (.int .i64 5)))), none⟩])
   (.ret))
   (.skip)))
  (.seq (.seq (.reg [⟨(some 11), .mv (.t 1), none⟩,
    ⟨(some 12), .len (.t 11), none⟩,
    ⟨(some 13), .bin .gtr (.t 12) (.k (.c (.d (.int .i64 16)))), none⟩])
  (.cond (.t 13) (.seq (.reg [⟨(some 6), .mv (.k (.c (.d (.int .i64 8)))), none⟩])
   (.ret))
   (.skip)))
  (.seq (.reg [⟨(some 7), .mv (.k (.c (.d (.fn 43 [])))), none⟩])
  (.seq (.seq (.reg [⟨(some 14), .mv (.t 1), none⟩,
    ⟨(some 15), .mv (.t 7), none⟩,
    ⟨(some 16), .call 44 [(.t 14), (.t 15)] none, none⟩,
    ⟨(some 17), .mv (.t 16), none⟩,
    ⟨(some 18), .mv (.t 2), (some (17, false))⟩,
    ⟨(some 19), .bin .gtr (.t 18) (.k (.c (.d (.int .i64 65519)))), (some (17, false))⟩,
    ⟨(some 20), .pick (.t 17) (.k (.c (.d (.bool true)))) (.t 19), none⟩])
  (.cond (.t 20) (.seq (.reg [⟨(some 6), .mv (.k (.c (.d (.int .i64 2)))), none⟩])
   (.ret))
   (.skip)))
  (.seq (.reg [⟨(some 6), .mv (.k (.c (.d (.int .i64 0)))), none⟩])
  (.ret)))))),
  [(6, none)]⟩
theorem cf_chk : compFn Try.prog { own := [], comp := [], frz := [], nils := [] } Try.f25 = some sf_chk := by kernel_rfl
set_option maxHeartbeats 1600000 in
theorem chk_c (G : Glob) (key : List UInt8) (ad : List (List UInt8)) (n : Int) (hk : key.length ≤ 9223372036854775807) (hl : ad.length ≤ 9223372036854775807) (hb : ∀ x ∈ ad, x.length ≤ 9223372036854775807) : Den Try.prog G 25 [.sl (key.map bD), sls ad, .int .i64 n] (.w (.c (.d (.int .i64 (aeE key ad n))))) := by
  refine den_walk Try.func25 cf_chk rfl rfl ?_
  have hc := conf_c G ad 43 [] (fun x => decide (65519 < x.length)) hl (fun x hx => chkl_c G x (hb x hx))
  have hL : (ad.any fun x => decide (65519 < x.length)) = longA ad := rfl
  rw [hL] at hc
  unfold aeE
  by_cases h : key.length = 32
  · rw [if_neg (by omega)]
    by_cases h2 : 16 < ad.length
    · rw [if_pos h2]
      simp only [sf_chk, putAll, wx, wy, wz, stV, seval, IntWalk.iteOmega, IntWalk.toNatUp, reduceCtorEq]
      exact ret_d1 (by simp only [wx, wy, wz, stV, seval, IntWalk.iteOmega, IntWalk.toNatUp, reduceCtorEq])
    · rw [if_neg h2]
      cases hl : longA ad
      · rw [hl] at hc
        by_cases h3 : 65519 < n
        · rw [if_pos (.inr h3)]
          simp only [sf_chk, putAll, wx, wy, wz, stV, seval, IntWalk.iteOmega, IntWalk.toNatUp, reduceCtorEq]
          refine st_call (hc) rfl (.inl rfl) ?_
          simp only [wx, wy, wz, stV, seval, IntWalk.iteOmega, IntWalk.toNatUp, reduceCtorEq]
          exact ret_d1 (by simp only [wx, wy, wz, stV, seval, IntWalk.iteOmega, IntWalk.toNatUp, reduceCtorEq])
        · rw [if_neg (by simp; omega)]
          simp only [sf_chk, putAll, wx, wy, wz, stV, seval, IntWalk.iteOmega, IntWalk.toNatUp, reduceCtorEq]
          refine st_call (hc) rfl (.inl rfl) ?_
          simp only [wx, wy, wz, stV, seval, IntWalk.iteOmega, IntWalk.toNatUp, reduceCtorEq]
          exact ret_d1 (by simp only [wx, wy, wz, stV, seval, IntWalk.iteOmega, IntWalk.toNatUp, reduceCtorEq])
      · rw [hl] at hc
        rw [if_pos (.inl rfl)]
        simp only [sf_chk, putAll, wx, wy, wz, stV, seval, IntWalk.iteOmega, IntWalk.toNatUp, reduceCtorEq]
        refine st_call (hc) rfl (.inl rfl) ?_
        simp only [wx, wy, wz, stV, seval, IntWalk.iteOmega, IntWalk.toNatUp, reduceCtorEq]
        exact ret_d1 (by simp only [wx, wy, wz, stV, seval, IntWalk.iteOmega, IntWalk.toNatUp, reduceCtorEq])
  · rw [if_pos h]
    simp only [sf_chk, putAll, wx, wy, wz, stV, seval, IntWalk.iteOmega, IntWalk.toNatUp, reduceCtorEq]
    exact ret_d1 (by simp only [wx, wy, wz, stV, seval, IntWalk.iteOmega, IntWalk.toNatUp, reduceCtorEq])
def sf_tagd : SFn := ⟨3, 23,
  .seq (.reg [⟨(some 6), .mv (.k (.c .nil)), none⟩])
  (.seq (.reg [⟨(some 10), .mv (.t 1), none⟩,
    ⟨(some 11), .mv (.t 2), none⟩,
    ⟨(some 12), .bldSl false 1 1 (.sl []) [(0, (.t 11))], none⟩,
    ⟨(some 13), .bldSl false 2 1 (.sl []) [(0, (.t 10)), (1, (.t 12))], none⟩,
    ⟨(some 14), .call 45 [(.t 13)] none, none⟩,
    ⟨(some 7), .mv (.t 14), none⟩])
  (.seq (.reg [⟨(some 16), .mv (.t 0), none⟩,
    ⟨(some 17), .slice 1 (.t 16) none (some (.k (.c (.d (.int .i64 16))))) none, none⟩,
    ⟨(some 18), .mv (.t 7), none⟩,
    ⟨(some 19), .call 18 [(.t 17), (.t 18)] (some (0, 1)), none⟩,
    ⟨(some 15), .mv (.t 19), none⟩,
    ⟨(some 20), .extract (.t 15) 0, none⟩,
    ⟨(some 21), .extract (.t 15) 1, none⟩,
    ⟨(some 8), .mv (.t 20), none⟩,
    ⟨(some 9), .mv (.t 21), none⟩])
  (.seq (.reg [⟨(some 22), .mv (.t 8), none⟩,
    ⟨(some 6), .mv (.t 22), none⟩])
  (.ret)))),
  [(6, none)]⟩
theorem cf_tagd : compFn Try.prog { own := [], comp := [(19, 0)], frz := [], nils := [] } Try.f26 = some sf_tagd := by kernel_rfl
set_option maxHeartbeats 1600000 in
theorem tagd_f (G : Glob) (key : List UInt8) (ad : List (List UInt8)) (b : List UInt8) (h : key.length = 32) (hn : ad.length ≤ 16) (hl : longA ad = false) (hb : b.length ≤ 65519) : Den Try.prog G 26 [.sl (key.map bD), sls ad, .sl (b.map bD)] (.w (.c (.fr 1 ((tagM key ad b).map bD)))) := by
  refine den_walk Try.func26 cf_tagd rfl rfl ?_
  have hf : [ad, [b]].flatten = ad ++ [b] := by simp
  have hc := conc_c G [ad, [b]] (by simp) (by rw [hf]; simp; omega)
  rw [hf] at hc
  have hk : (key.take 16).length = 16 := by rw [List.length_take]; omega
  obtain ⟨v1, v2⟩ := vctV_ok (l := ad ++ [b]) hk (by simp; omega) (ad_all hl hb)
  have hv := vctr_f G (key.take 16) (ad ++ [b]) (by omega) (by simp; omega) (fun x hx => Nat.le_trans (ad_all hl hb x hx) (by decide))
  rw [v1, v2] at hv
  have ht : vecM (rkK (key.take 16)) (ad ++ [b]) = tagM key ad b := rfl
  rw [ht] at hv
  simp only [sf_tagd, putAll, wx, wy, wz, stV, seval, IntWalk.iteOmega, IntWalk.toNatUp, reduceCtorEq]
  refine st_call (hc) rfl (.inl rfl) ?_
  simp only [wx, wy, wz, stV, seval, IntWalk.iteOmega, IntWalk.toNatUp, reduceCtorEq]
  refine st_call (hv) rfl (.inl rfl) ?_
  simp only [wx, wy, wz, stV, seval, IntWalk.iteOmega, IntWalk.toNatUp, reduceCtorEq]
  exact ret_f1 (by simp only [wx, wy, wz, stV, seval, IntWalk.iteOmega, IntWalk.toNatUp, reduceCtorEq])
theorem tagd_c (G : Glob) (key : List UInt8) (ad : List (List UInt8)) (b : List UInt8) (h : key.length = 32) (hn : ad.length ≤ 16) (hl : longA ad = false) (hb : b.length ≤ 65519) : Den Try.prog G 26 [.sl (key.map bD), sls ad, .sl (b.map bD)] (.w (.c (.d (.sl ((tagM key ad b).map bD))))) := den_ro (tagd_f G key ad b h hn hl hb)
theorem ctr_get {tag : List UInt8} (h : tag.length = 16) {i : Nat} (hi : i < 16) : tag[i]? = some (tag.getD i 0) := by
  rw [List.getD_eq_getElem?_getD, List.getElem?_eq_getElem (by omega)]; rfl
theorem ctr_two {tag : List UInt8} (h : tag.length = 16) (x : UInt8) : (tag.set 8 x)[12]? = some (tag.getD 12 0) := by
  rw [List.getElem?_set_ne (by decide), ctr_get h (by decide)]
def sf_ctr : SFn := ⟨1, 18,
  .seq (.reg [⟨(some 2), .mv (.k (.c .nil)), none⟩])
  (.seq (.reg [⟨(some 4), .mv (.t 0), none⟩,
    ⟨(some 5), .bldSl false 1 1 (.sl []) [(0, (.t 4))], none⟩,
    ⟨(some 6), .call 29 [(.t 5)] (some (0, 1)), none⟩,
    ⟨(some 3), .mv (.t 6), none⟩])
  (.seq (.reg [⟨(some 7), .mv (.t 3), none⟩,
    ⟨(some 8), .idxSl 1 (.t 7) (.k (.c (.d (.int .i64 8)))), none⟩,
    ⟨(some 9), .load .sc (.t 8), none⟩,
    ⟨(some 10), .bin .and (.t 9) (.k (.c (.d (.int .u8 127)))), none⟩,
    ⟨(some 11), .idxSl 1 (.t 7) (.k (.c (.d (.int .i64 8)))), none⟩,
    ⟨none, .store .sc (.t 11) (.t 10), none⟩])
  (.seq (.reg [⟨(some 12), .mv (.t 3), none⟩,
    ⟨(some 13), .idxSl 1 (.t 12) (.k (.c (.d (.int .i64 12)))), none⟩,
    ⟨(some 14), .load .sc (.t 13), none⟩,
    ⟨(some 15), .bin .and (.t 14) (.k (.c (.d (.int .u8 127)))), none⟩,
    ⟨(some 16), .idxSl 1 (.t 12) (.k (.c (.d (.int .i64 12)))), none⟩,
    ⟨none, .store .sc (.t 16) (.t 15), none⟩])
  (.seq (.reg [⟨(some 17), .mv (.t 3), none⟩,
    ⟨(some 2), .mv (.t 17), none⟩])
  (.ret))))),
  [(2, none)]⟩
theorem cf_ctr : compFn Try.prog { own := [6], comp := [], frz := [], nils := [] } Try.f51 = some sf_ctr := by kernel_rfl
set_option maxHeartbeats 1600000 in
theorem ctr_f (G : Glob) (tag : List UInt8) (h : tag.length = 16) : Den Try.prog G 51 [.sl (tag.map bD)] (.w (.c (.fr 1 ((ctrT tag).map bD)))) := by
  refine den_walk Try.func51 cf_ctr rfl rfl ?_
  have hj := join_c G [tag] (by simp) (by simp; omega)
  have hf : [tag].flatten = tag := by simp
  rw [hf] at hj
  have g1 := ctr_get h (i := 8) (by decide)
  have g2 := ctr_get h (i := 12) (by decide)
  have g3 := ctr_two h (andB (tag.getD 8 0) 127)
  have x1 := bl_and (tag.getD 8 0) 127 127 rfl
  have x2 := bl_and (tag.getD 12 0) 127 127 rfl
  have hs : (tag.set 8 (andB (tag.getD 8 0) 127)).set 12 (andB (tag.getD 12 0) 127) = ctrT tag := rfl
  simp only [sf_ctr, putAll, wx, wy, wz, stV, seval, IntWalk.iteOmega, IntWalk.toNatUp, reduceCtorEq]
  refine st_call (hj) rfl (.inl rfl) ?_
  simp only [get_map, g1, g2, g3, x1, x2, set_map, hs, wx, wy, wz, stV, seval, IntWalk.iteOmega, IntWalk.toNatUp, reduceCtorEq]
  exact ret_f1 (by simp only [wx, wy, wz, stV, seval, IntWalk.iteOmega, IntWalk.toNatUp, reduceCtorEq, ctrT_len])
theorem ctr_c (G : Glob) (tag : List UInt8) (h : tag.length = 16) : Den Try.prog G 51 [.sl (tag.map bD)] (.w (.c (.d (.sl ((ctrT tag).map bD))))) := den_ro (ctr_f G tag h)
def sf_rctr : SFn := ⟨1, 20,
  .seq (.reg [⟨(some 2), .mv (.k (.c .nil)), none⟩])
  (.seq (.reg [⟨(some 4), .mv (.t 0), none⟩,
    ⟨(some 5), .bldSl false 1 1 (.sl []) [(0, (.t 4))], none⟩,
    ⟨(some 6), .call 19 [(.t 5)] (some (0, 1)), none⟩,
    ⟨(some 3), .mv (.t 6), none⟩])
  (.seq (.reg [⟨(some 7), .mv (.t 3), none⟩,
    ⟨(some 8), .mv (.t 3), none⟩,
    ⟨(some 9), .mv (.t 3), none⟩,
    ⟨(some 10), .idxSl 1 (.t 9) (.k (.c (.d (.int .i64 8)))), none⟩,
    ⟨(some 11), .load .sc (.t 10), none⟩,
    ⟨(some 12), .bin .and (.t 11) (.k (.c (.d (.int .u8 127)))), none⟩,
    ⟨(some 13), .mv (.t 3), none⟩,
    ⟨(some 14), .idxSl 1 (.t 13) (.k (.c (.d (.int .i64 12)))), none⟩,
    ⟨(some 15), .load .sc (.t 14), none⟩,
    ⟨(some 16), .bin .and (.t 15) (.k (.c (.d (.int .u8 127)))), none⟩,
    ⟨(some 17), .idxSl 1 (.t 7) (.k (.c (.d (.int .i64 8)))), none⟩,
    ⟨none, .store .sc (.t 17) (.t 12), none⟩,
    ⟨(some 18), .idxSl 1 (.t 8) (.k (.c (.d (.int .i64 12)))), none⟩,
    ⟨none, .store .sc (.t 18) (.t 16), none⟩])
  (.seq (.reg [⟨(some 19), .mv (.t 3), none⟩,
    ⟨(some 2), .mv (.t 19), none⟩])
  (.ret)))),
  [(2, none)]⟩
theorem cf_rctr : compFn Try.prog { own := [6], comp := [], frz := [], nils := [] } Try.f32 = some sf_rctr := by kernel_rfl
set_option maxHeartbeats 1600000 in
theorem rctr_f (G : Glob) (tag : List UInt8) (h : tag.length = 16) : Den Try.prog G 32 [.sl (tag.map bD)] (.w (.c (.fr 1 ((ctrT tag).map bD)))) := by
  refine den_walk Try.func32 cf_rctr rfl rfl ?_
  have hj := rjoin_c G [tag] (by simp) (by simp; omega)
  have hf : [tag].flatten = tag := by simp
  rw [hf] at hj
  have g1 := ctr_get h (i := 8) (by decide)
  have g2 := ctr_get h (i := 12) (by decide)
  have g3 := ctr_two h (andB (tag.getD 8 0) 127)
  have x1 := bl_and (tag.getD 8 0) 127 127 rfl
  have x2 := bl_and (tag.getD 12 0) 127 127 rfl
  have hs : (tag.set 8 (andB (tag.getD 8 0) 127)).set 12 (andB (tag.getD 12 0) 127) = ctrT tag := rfl
  simp only [sf_rctr, putAll, wx, wy, wz, stV, seval, IntWalk.iteOmega, IntWalk.toNatUp, reduceCtorEq]
  refine st_call (hj) rfl (.inl rfl) ?_
  simp only [get_map, g1, g2, g3, x1, x2, set_map, hs, wx, wy, wz, stV, seval, IntWalk.iteOmega, IntWalk.toNatUp, reduceCtorEq]
  exact ret_f1 (by simp only [wx, wy, wz, stV, seval, IntWalk.iteOmega, IntWalk.toNatUp, reduceCtorEq, ctrT_len])
theorem rctr_c (G : Glob) (tag : List UInt8) (h : tag.length = 16) : Den Try.prog G 32 [.sl (tag.map bD)] (.w (.c (.d (.sl ((ctrT tag).map bD))))) := den_ro (rctr_f G tag h)
def sf_strd : SFn := ⟨3, 19,
  .seq (.reg [⟨(some 6), .mv (.k (.c .nil)), none⟩])
  (.seq (.reg [⟨(some 10), .mv (.t 0), none⟩,
    ⟨(some 11), .slice 1 (.t 10) (some (.k (.c (.d (.int .i64 16))))) none none, none⟩,
    ⟨(some 12), .mv (.t 1), none⟩,
    ⟨(some 13), .call 51 [(.t 12)] none, none⟩,
    ⟨(some 14), .mv (.t 2), none⟩,
    ⟨(some 15), .call 20 [(.t 11), (.t 13), (.t 14)] (some (0, 1)), none⟩,
    ⟨(some 9), .mv (.t 15), none⟩,
    ⟨(some 16), .extract (.t 9) 0, none⟩,
    ⟨(some 17), .extract (.t 9) 1, none⟩,
    ⟨(some 7), .mv (.t 16), none⟩,
    ⟨(some 8), .mv (.t 17), none⟩])
  (.seq (.reg [⟨(some 18), .mv (.t 7), none⟩,
    ⟨(some 6), .mv (.t 18), none⟩])
  (.ret))),
  [(6, none)]⟩
theorem cf_strd : compFn Try.prog { own := [], comp := [(15, 0)], frz := [], nils := [] } Try.f30 = some sf_strd := by kernel_rfl
set_option maxHeartbeats 1600000 in
theorem strd_f (G : Glob) (key tag b : List UInt8) (h : key.length = 32) (ht : tag.length = 16) (hb : b.length ≤ 65535) : Den Try.prog G 30 [.sl (key.map bD), .sl (tag.map bD), .sl (b.map bD)] (.w (.c (.fr 1 ((strS key tag b).map bD)))) := by
  refine den_walk Try.func30 cf_strd rfl rfl ?_
  have hk : (key.drop 16).length = 16 := by rw [List.length_drop]; omega
  have hk2 : (key.drop 16).take 16 = key.drop 16 := List.take_of_length_le (by omega)
  obtain ⟨v1, v2⟩ := strmVE_ok (c := ctrT tag) (b := b) hk (by rw [ctrT_len]; exact ht) hb
  have hv := stm_f G (key.drop 16) (ctrT tag) b (by omega) (by rw [ctrT_len]; omega) (by omega)
  rw [v1, v2] at hv
  have hs : strmC (rkK (key.drop 16)) (ctrT tag) b = strS key tag b := rfl
  rw [hs] at hv
  simp only [sf_strd, putAll, wx, wy, wz, stV, seval, IntWalk.iteOmega, IntWalk.toNatUp, reduceCtorEq, h]
  refine st_call (ctr_c G tag ht) rfl (.inl rfl) ?_
  simp only [hk2, wx, wy, wz, stV, seval, IntWalk.iteOmega, IntWalk.toNatUp, reduceCtorEq]
  refine st_call (hv) rfl (.inl rfl) ?_
  simp only [wx, wy, wz, stV, seval, IntWalk.iteOmega, IntWalk.toNatUp, reduceCtorEq]
  exact ret_f1 (by simp only [wx, wy, wz, stV, seval, IntWalk.iteOmega, IntWalk.toNatUp, reduceCtorEq])
theorem strd_c (G : Glob) (key tag b : List UInt8) (h : key.length = 32) (ht : tag.length = 16) (hb : b.length ≤ 65535) : Den Try.prog G 30 [.sl (key.map bD), .sl (tag.map bD), .sl (b.map bD)] (.w (.c (.d (.sl ((strS key tag b).map bD))))) := den_ro (strd_f G key tag b h ht hb)
def sf_tag : SFn := ⟨3, 21,
  .seq (.reg [⟨(some 6), .mv (.k (.c .nil)), none⟩,
    ⟨(some 7), .mv (.k (.c (.d (.int .i64 0)))), none⟩])
  (.seq (.seq (.reg [⟨(some 9), .mv (.t 0), none⟩,
    ⟨(some 10), .mv (.t 1), none⟩,
    ⟨(some 11), .mv (.t 2), none⟩,
    ⟨(some 12), .len (.t 11), none⟩,
    ⟨(some 13), .call 25 [(.t 9), (.t 10), (.t 12)] none, none⟩,
    ⟨(some 8), .mv (.t 13), none⟩])
  (.seq (.reg [⟨(some 14), .mv (.t 8), none⟩,
    ⟨(some 15), .bin .neq (.t 14) (.k (.c (.d (.int .i64 0)))), none⟩])
  (.cond (.t 15) (.seq (.reg [⟨(some 16), .mv (.t 8), none⟩,
     ⟨(some 6), .mv (.k (.c .nil)), none⟩,
     ⟨(some 7), .mv (.t 16), none⟩])
   (.ret))
   (.skip))))
  (.seq (.reg [⟨(some 17), .mv (.t 0), none⟩,
    ⟨(some 18), .mv (.t 1), none⟩,
    ⟨(some 19), .mv (.t 2), none⟩,
    ⟨(some 20), .call 26 [(.t 17), (.t 18), (.t 19)] (some (0, 1)), none⟩,
    ⟨(some 6), .mv (.t 20), none⟩,
    ⟨(some 7), .mv (.k (.c (.d (.int .i64 0)))), none⟩])
  (.ret))),
  [(6, none), (7, none)]⟩
theorem cf_tag : compFn Try.prog { own := [20], comp := [], frz := [], nils := [] } Try.f9 = some sf_tag := by kernel_rfl
set_option maxHeartbeats 1600000 in
theorem tag_f (G : Glob) (key : List UInt8) (ad : List (List UInt8)) (b : List UInt8) (hk : key.length ≤ 9223372036854775807) (hl : ad.length ≤ 9223372036854775807) (hx : ∀ x ∈ ad, x.length ≤ 9223372036854775807) (hb : b.length ≤ 9223372036854775807) : Den Try.prog G 9 [.sl (key.map bD), sls ad, .sl (b.map bD)] (.tup [.c (.fr 1 ((tagV key ad b).map bD)), .c (.d (.int .i64 (aeE key ad b.length)))]) := by
  refine den_walk Try.func9 cf_tag rfl rfl ?_
  have hc := chk_c G key ad (b.length : Int) hk hl hx
  by_cases he : aeE key ad (b.length : Int) = 0
  · have hv : tagV key ad b = tagM key ad b := if_pos he
    obtain ⟨k1, k2, k3, k4⟩ := aeE_ok he
    rw [he] at hc ⊢
    rw [hv]
    simp only [sf_tag, putAll, wx, wy, wz, stV, seval, IntWalk.iteOmega, IntWalk.toNatUp, reduceCtorEq]
    refine st_call (hc) rfl (.inl rfl) ?_
    simp only [wx, wy, wz, stV, seval, IntWalk.iteOmega, IntWalk.toNatUp, reduceCtorEq]
    refine st_call (tagd_f G key ad b k1 k2 k3 (by omega)) rfl (.inl rfl) ?_
    simp only [wx, wy, wz, stV, seval, IntWalk.iteOmega, IntWalk.toNatUp, reduceCtorEq]
    exact ret_f2 (by simp only [wx, wy, wz, stV, seval, IntWalk.iteOmega, IntWalk.toNatUp, reduceCtorEq]) (by simp only [wx, wy, wz, stV, seval, IntWalk.iteOmega, IntWalk.toNatUp, reduceCtorEq])
  · have hv : tagV key ad b = [] := if_neg he
    rw [hv]
    have hne : aeE key ad (b.length : Int) = 0 ↔ False := ⟨he, False.elim⟩
    rcases aeE_val key ad b.length with e | e | e | e
    · exact absurd e he
    all_goals
      rw [e] at hc ⊢
      simp only [sf_tag, putAll, wx, wy, wz, stV, seval, IntWalk.iteOmega, IntWalk.toNatUp, reduceCtorEq]
      refine st_call hc rfl (.inl rfl) ?_
      simp only [wx, wy, wz, stV, seval, IntWalk.iteOmega, IntWalk.toNatUp, reduceCtorEq]
      exact ret_f2 (by simp only [wx, wy, wz, stV, seval, IntWalk.iteOmega, IntWalk.toNatUp, reduceCtorEq]) (by simp only [wx, wy, wz, stV, seval, IntWalk.iteOmega, IntWalk.toNatUp, reduceCtorEq])
theorem tag_c (G : Glob) (key : List UInt8) (ad : List (List UInt8)) (b : List UInt8) (hk : key.length ≤ 9223372036854775807) (hl : ad.length ≤ 9223372036854775807) (hx : ∀ x ∈ ad, x.length ≤ 9223372036854775807) (hb : b.length ≤ 9223372036854775807) : Den Try.prog G 9 [.sl (key.map bD), sls ad, .sl (b.map bD)] (.tup [.c (.d (.sl ((tagV key ad b).map bD))), .c (.d (.int .i64 (aeE key ad b.length)))]) := den_ro2 (tag_f G key ad b hk hl hx hb)
def sf_seal : SFn := ⟨3, 27,
  .seq (.reg [⟨(some 6), .mv (.k (.c .nil)), none⟩,
    ⟨(some 7), .mv (.k (.c (.d (.int .i64 0)))), none⟩])
  (.seq (.reg [⟨(some 11), .mv (.t 0), none⟩,
    ⟨(some 12), .mv (.t 1), none⟩,
    ⟨(some 13), .mv (.t 2), none⟩,
    ⟨(some 14), .call 9 [(.t 11), (.t 12), (.t 13)] none, none⟩,
    ⟨(some 10), .mv (.t 14), none⟩,
    ⟨(some 15), .extract (.t 10) 0, none⟩,
    ⟨(some 16), .extract (.t 10) 1, none⟩,
    ⟨(some 8), .mv (.t 15), none⟩,
    ⟨(some 9), .mv (.t 16), none⟩])
  (.seq (.seq (.reg [⟨(some 17), .mv (.t 9), none⟩,
    ⟨(some 18), .bin .neq (.t 17) (.k (.c (.d (.int .i64 0)))), none⟩])
  (.cond (.t 18) (.seq (.reg [⟨(some 19), .mv (.t 9), none⟩,
     ⟨(some 6), .mv (.k (.c .nil)), none⟩,
     ⟨(some 7), .mv (.t 19), none⟩])
   (.ret))
   (.skip)))
  (.seq (.reg [⟨(some 20), .mv (.t 8), none⟩,
    ⟨(some 21), .mv (.t 0), none⟩,
    ⟨(some 22), .mv (.t 8), none⟩,
    ⟨(some 23), .mv (.t 2), none⟩,
    ⟨(some 24), .call 30 [(.t 21), (.t 22), (.t 23)] none, none⟩,
    ⟨(some 25), .bldSl false 2 1 (.sl []) [(0, (.t 20)), (1, (.t 24))], none⟩,
    ⟨(some 26), .call 29 [(.t 25)] (some (0, 1)), none⟩,
    ⟨(some 6), .mv (.t 26), none⟩,
    ⟨(some 7), .mv (.k (.c (.d (.int .i64 0)))), none⟩])
  (.ret)))),
  [(6, none), (7, none)]⟩
theorem cf_seal : compFn Try.prog { own := [26], comp := [], frz := [], nils := [] } Try.f11 = some sf_seal := by kernel_rfl
set_option maxHeartbeats 1600000 in
theorem seal_f (G : Glob) (key : List UInt8) (ad : List (List UInt8)) (b : List UInt8) (hk : key.length ≤ 9223372036854775807) (hl : ad.length ≤ 9223372036854775807) (hx : ∀ x ∈ ad, x.length ≤ 9223372036854775807) (hb : b.length ≤ 9223372036854775807) : Den Try.prog G 11 [.sl (key.map bD), sls ad, .sl (b.map bD)] (.tup [.c (.fr 1 ((sealV key ad b).map bD)), .c (.d (.int .i64 (aeE key ad b.length)))]) := by
  refine den_walk Try.func11 cf_seal rfl rfl ?_
  have hc := tag_c G key ad b hk hl hx hb
  by_cases he : aeE key ad (b.length : Int) = 0
  · have hv : tagV key ad b = tagM key ad b := if_pos he
    have hv2 : sealV key ad b = tagM key ad b ++ strS key (tagM key ad b) b := if_pos he
    obtain ⟨k1, k2, k3, k4⟩ := aeE_ok he
    have hj := join_c G [tagM key ad b, strS key (tagM key ad b) b] (by simp) (by simp [tagM_len, strS_len]; omega)
    have hf : [tagM key ad b, strS key (tagM key ad b) b].flatten = tagM key ad b ++ strS key (tagM key ad b) b := by simp
    rw [hf] at hj
    rw [he, hv] at hc
    rw [he, hv2]
    simp only [sf_seal, putAll, wx, wy, wz, stV, seval, IntWalk.iteOmega, IntWalk.toNatUp, reduceCtorEq]
    refine st_call (hc) rfl (.inl rfl) ?_
    simp only [wx, wy, wz, stV, seval, IntWalk.iteOmega, IntWalk.toNatUp, reduceCtorEq]
    refine st_call (strd_c G key (tagM key ad b) b k1 (tagM_len _ _ _) (by omega)) rfl (.inl rfl) ?_
    simp only [wx, wy, wz, stV, seval, IntWalk.iteOmega, IntWalk.toNatUp, reduceCtorEq]
    refine st_call (hj) rfl (.inl rfl) ?_
    simp only [wx, wy, wz, stV, seval, IntWalk.iteOmega, IntWalk.toNatUp, reduceCtorEq]
    exact ret_f2 (by simp only [wx, wy, wz, stV, seval, IntWalk.iteOmega, IntWalk.toNatUp, reduceCtorEq]) (by simp only [wx, wy, wz, stV, seval, IntWalk.iteOmega, IntWalk.toNatUp, reduceCtorEq])
  · have hv : tagV key ad b = [] := if_neg he
    have hv2 : sealV key ad b = [] := if_neg he
    rw [hv] at hc
    rw [hv2]
    rcases aeE_val key ad b.length with e | e | e | e
    · exact absurd e he
    all_goals
      rw [e] at hc ⊢
      simp only [sf_seal, putAll, wx, wy, wz, stV, seval, IntWalk.iteOmega, IntWalk.toNatUp, reduceCtorEq]
      refine st_call hc rfl (.inl rfl) ?_
      simp only [wx, wy, wz, stV, seval, IntWalk.iteOmega, IntWalk.toNatUp, reduceCtorEq]
      exact ret_f2 (by simp only [wx, wy, wz, stV, seval, IntWalk.iteOmega, IntWalk.toNatUp, reduceCtorEq]) (by simp only [wx, wy, wz, stV, seval, IntWalk.iteOmega, IntWalk.toNatUp, reduceCtorEq])
theorem seal_c (G : Glob) (key : List UInt8) (ad : List (List UInt8)) (b : List UInt8) (hk : key.length ≤ 9223372036854775807) (hl : ad.length ≤ 9223372036854775807) (hx : ∀ x ∈ ad, x.length ≤ 9223372036854775807) (hb : b.length ≤ 9223372036854775807) : Den Try.prog G 11 [.sl (key.map bD), sls ad, .sl (b.map bD)] (.tup [.c (.d (.sl ((sealV key ad b).map bD))), .c (.d (.int .i64 (aeE key ad b.length)))]) := den_ro2 (seal_f G key ad b hk hl hx hb)
theorem opn_err {key : List UInt8} {ad : List (List UInt8)} {s : List UInt8} (h : aeE key ad ((s.length : Int) - 16) ≠ 0) : opnE key ad s = aeE key ad ((s.length : Int) - 16) ∧ opnV key ad s = [] := by
  have : opnE key ad s = aeE key ad ((s.length : Int) - 16) := if_pos h
  refine ⟨this, ?_⟩
  unfold opnV
  rw [if_neg (by rw [this]; exact h)]
theorem opn_short {key : List UInt8} {ad : List (List UInt8)} {s : List UInt8} (h : aeE key ad ((s.length : Int) - 16) = 0) (hs : s.length < 16) : opnE key ad s = 1 ∧ opnV key ad s = [] := by
  have : opnE key ad s = 1 := by unfold opnE; rw [if_neg (by simp [h]), if_pos hs]
  refine ⟨this, ?_⟩
  unfold opnV
  rw [if_neg (by rw [this]; decide)]
theorem opn_ok {key : List UInt8} {ad : List (List UInt8)} {s : List UInt8} (h : aeE key ad ((s.length : Int) - 16) = 0) (hs : ¬ s.length < 16) (ht : s.take 16 = tagM key ad (strS key (s.take 16) (s.drop 16))) : opnE key ad s = 0 ∧ opnV key ad s = strS key (s.take 16) (s.drop 16) := by
  have : opnE key ad s = 0 := by unfold opnE; rw [if_neg (by simp [h]), if_neg hs, if_pos ht]
  exact ⟨this, if_pos this⟩
theorem opn_auth {key : List UInt8} {ad : List (List UInt8)} {s : List UInt8} (h : aeE key ad ((s.length : Int) - 16) = 0) (hs : ¬ s.length < 16) (ht : s.take 16 ≠ tagM key ad (strS key (s.take 16) (s.drop 16))) : opnE key ad s = 6 ∧ opnV key ad s = [] := by
  have : opnE key ad s = 6 := by unfold opnE; rw [if_neg (by simp [h]), if_neg hs, if_neg ht]
  refine ⟨this, ?_⟩
  unfold opnV
  rw [if_neg (by rw [this]; decide)]
def sf_opn : SFn := ⟨3, 38,
  .seq (.reg [⟨(some 6), .mv (.k (.c .nil)), none⟩,
    ⟨(some 7), .mv (.k (.c (.d (.int .i64 0)))), none⟩])
  (.seq (.seq (.reg [⟨(some 11), .mv (.t 0), none⟩,
    ⟨(some 12), .mv (.t 1), none⟩,
    ⟨(some 13), .mv (.t 2), none⟩,
    ⟨(some 14), .len (.t 13), none⟩,
    ⟨(some 15), .bin .sub (.t 14) (.k (.c (.d (.int .i64 16)))), none⟩,
    ⟨(some 16), .call 25 [(.t 11), (.t 12), (.t 15)] none, none⟩,
    ⟨(some 8), .mv (.t 16), none⟩])
  (.seq (.reg [⟨(some 17), .mv (.t 8), none⟩,
    ⟨(some 18), .bin .neq (.t 17) (.k (.c (.d (.int .i64 0)))), none⟩])
  (.cond (.t 18) (.seq (.reg [⟨(some 19), .mv (.t 8), none⟩,
     ⟨(some 6), .mv (.k (.c .nil)), none⟩,
     ⟨(some 7), .mv (.t 19), none⟩])
   (.ret))
   (.skip))))
  (.seq (.seq (.reg [⟨(some 20), .mv (.t 2), none⟩,
    ⟨(some 21), .len (.t 20), none⟩,
    ⟨(some 22), .bin .lss (.t 21) (.k (.c (.d (.int .i64 16)))), none⟩])
  (.cond (.t 22) (.seq (.reg [⟨(some 6), .mv (.k (.c .nil)), none⟩,
     ⟨(some 7), .mv (.k (.c (.d (.int .i64 1)))), none⟩])
   (.ret))
   (.skip)))
  (.seq (.reg [⟨(some 23), .mv (.t 2), none⟩,
    ⟨(some 24), .slice 1 (.t 23) none (some (.k (.c (.d (.int .i64 16))))) none, none⟩,
    ⟨(some 9), .mv (.t 24), none⟩])
  (.seq (.reg [⟨(some 25), .mv (.t 0), none⟩,
    ⟨(some 26), .mv (.t 9), none⟩,
    ⟨(some 27), .mv (.t 2), none⟩,
    ⟨(some 28), .slice 1 (.t 27) (some (.k (.c (.d (.int .i64 16))))) none none, none⟩,
    ⟨(some 29), .call 30 [(.t 25), (.t 26), (.t 28)] (some (0, 1)), none⟩,
    ⟨(some 10), .mv (.t 29), none⟩])
  (.seq (.seq (.reg [⟨(some 30), .mv (.t 9), none⟩,
    ⟨(some 31), .mv (.t 0), none⟩,
    ⟨(some 32), .mv (.t 1), none⟩,
    ⟨(some 33), .mv (.t 10), none⟩,
    ⟨(some 34), .call 26 [(.t 31), (.t 32), (.t 33)] none, none⟩,
    ⟨(some 35), .call 33 [(.t 30), (.t 34)] none, none⟩,
    ⟨(some 36), .un .not (.t 35), none⟩])
  (.cond (.t 36) (.seq (.reg [⟨(some 6), .mv (.k (.c .nil)), none⟩,
     ⟨(some 7), .mv (.k (.c (.d (.int .i64 6)))), none⟩])
   (.ret))
   (.skip)))
  (.seq (.reg [⟨(some 37), .mv (.t 10), none⟩,
    ⟨(some 6), .mv (.t 37), none⟩,
    ⟨(some 7), .mv (.k (.c (.d (.int .i64 0)))), none⟩])
  (.ret))))))),
  [(6, none), (7, none)]⟩
theorem cf_opn : compFn Try.prog { own := [29], comp := [], frz := [], nils := [] } Try.f13 = some sf_opn := by kernel_rfl
set_option maxHeartbeats 1600000 in
theorem opn_f (G : Glob) (key : List UInt8) (ad : List (List UInt8)) (s : List UInt8) (hk : key.length ≤ 9223372036854775807) (hl : ad.length ≤ 9223372036854775807) (hx : ∀ x ∈ ad, x.length ≤ 9223372036854775807) (hb : s.length ≤ 9223372036854775807) : Den Try.prog G 13 [.sl (key.map bD), sls ad, .sl (s.map bD)] (.tup [.c (.fr 1 ((opnV key ad s).map bD)), .c (.d (.int .i64 (opnE key ad s)))]) := by
  refine den_walk Try.func13 cf_opn rfl rfl ?_
  have hc := chk_c G key ad ((s.length : Int) - 16) hk hl hx
  by_cases he : aeE key ad ((s.length : Int) - 16) = 0
  · obtain ⟨k1, k2, k3, k4⟩ := aeE_ok he
    rw [he] at hc
    by_cases hs : s.length < 16
    · obtain ⟨e1, e2⟩ := opn_short he hs
      rw [e1, e2]
      simp only [sf_opn, putAll, wx, wy, wz, stV, seval, IntWalk.iteOmega, IntWalk.toNatUp, reduceCtorEq]
      refine st_call (hc) rfl (.inl rfl) ?_
      simp only [wx, wy, wz, stV, seval, IntWalk.iteOmega, IntWalk.toNatUp, reduceCtorEq]
      exact ret_f2 (by simp only [wx, wy, wz, stV, seval, IntWalk.iteOmega, IntWalk.toNatUp, reduceCtorEq]) (by simp only [wx, wy, wz, stV, seval, IntWalk.iteOmega, IntWalk.toNatUp, reduceCtorEq])
    · have ht : (s.take 16).length = 16 := by rw [List.length_take]; omega
      have hd : (s.drop 16).length = s.length - 16 := List.length_drop
      have hd2 : (s.drop 16).take (s.length - 16) = s.drop 16 := List.take_of_length_le (by omega)
      have c1 := strd_f G key (s.take 16) (s.drop 16) k1 ht (by omega)
      have c2 := tagd_f G key ad (strS key (s.take 16) (s.drop 16)) k1 k2 k3 (by rw [strS_len]; omega)
      have c3 := same_c G (s.take 16) (tagM key ad (strS key (s.take 16) (s.drop 16)))
      by_cases hq : s.take 16 = tagM key ad (strS key (s.take 16) (s.drop 16))
      · obtain ⟨e1, e2⟩ := opn_ok he hs hq
        have hb : (s.take 16 == tagM key ad (strS key (s.take 16) (s.drop 16))) = true := beq_iff_eq.2 hq
        rw [hb] at c3
        rw [e1, e2]
        simp only [sf_opn, putAll, wx, wy, wz, stV, seval, IntWalk.iteOmega, IntWalk.toNatUp, reduceCtorEq]
        refine st_call (hc) rfl (.inl rfl) ?_
        simp only [hd2, wx, wy, wz, stV, seval, IntWalk.iteOmega, IntWalk.toNatUp, reduceCtorEq]
        refine st_call (c1) rfl (.inl rfl) ?_
        simp only [wx, wy, wz, stV, seval, IntWalk.iteOmega, IntWalk.toNatUp, reduceCtorEq]
        refine st_call (c2) (by simp only [wx, wy, wz, stV, seval, IntWalk.iteOmega, IntWalk.toNatUp, reduceCtorEq]) (.inr (fl_b _ _)) ?_
        simp only [wx, wy, wz, stV, seval, IntWalk.iteOmega, IntWalk.toNatUp, reduceCtorEq]
        refine st_call (c3) rfl (.inl rfl) ?_
        simp only [wx, wy, wz, stV, seval, IntWalk.iteOmega, IntWalk.toNatUp, reduceCtorEq]
        exact ret_f2 (by simp only [wx, wy, wz, stV, seval, IntWalk.iteOmega, IntWalk.toNatUp, reduceCtorEq]) (by simp only [wx, wy, wz, stV, seval, IntWalk.iteOmega, IntWalk.toNatUp, reduceCtorEq])
      · obtain ⟨e1, e2⟩ := opn_auth he hs hq
        have hb : (s.take 16 == tagM key ad (strS key (s.take 16) (s.drop 16))) = false := by simpa using hq
        rw [hb] at c3
        rw [e1, e2]
        simp only [sf_opn, putAll, wx, wy, wz, stV, seval, IntWalk.iteOmega, IntWalk.toNatUp, reduceCtorEq]
        refine st_call (hc) rfl (.inl rfl) ?_
        simp only [hd2, wx, wy, wz, stV, seval, IntWalk.iteOmega, IntWalk.toNatUp, reduceCtorEq]
        refine st_call (c1) rfl (.inl rfl) ?_
        simp only [wx, wy, wz, stV, seval, IntWalk.iteOmega, IntWalk.toNatUp, reduceCtorEq]
        refine st_call (c2) (by simp only [wx, wy, wz, stV, seval, IntWalk.iteOmega, IntWalk.toNatUp, reduceCtorEq]) (.inr (fl_b _ _)) ?_
        simp only [wx, wy, wz, stV, seval, IntWalk.iteOmega, IntWalk.toNatUp, reduceCtorEq]
        refine st_call (c3) rfl (.inl rfl) ?_
        simp only [wx, wy, wz, stV, seval, IntWalk.iteOmega, IntWalk.toNatUp, reduceCtorEq]
        exact ret_f2 (by simp only [wx, wy, wz, stV, seval, IntWalk.iteOmega, IntWalk.toNatUp, reduceCtorEq]) (by simp only [wx, wy, wz, stV, seval, IntWalk.iteOmega, IntWalk.toNatUp, reduceCtorEq])
  · obtain ⟨e1, e2⟩ := opn_err he
    rw [e1, e2]
    rcases aeE_val key ad ((s.length : Int) - 16) with e | e | e | e
    · exact absurd e he
    all_goals
      rw [e] at hc ⊢
      simp only [sf_opn, putAll, wx, wy, wz, stV, seval, IntWalk.iteOmega, IntWalk.toNatUp, reduceCtorEq]
      refine st_call hc rfl (.inl rfl) ?_
      simp only [wx, wy, wz, stV, seval, IntWalk.iteOmega, IntWalk.toNatUp, reduceCtorEq]
      exact ret_f2 (by simp only [wx, wy, wz, stV, seval, IntWalk.iteOmega, IntWalk.toNatUp, reduceCtorEq]) (by simp only [wx, wy, wz, stV, seval, IntWalk.iteOmega, IntWalk.toNatUp, reduceCtorEq])
theorem opn_c (G : Glob) (key : List UInt8) (ad : List (List UInt8)) (s : List UInt8) (hk : key.length ≤ 9223372036854775807) (hl : ad.length ≤ 9223372036854775807) (hx : ∀ x ∈ ad, x.length ≤ 9223372036854775807) (hb : s.length ≤ 9223372036854775807) : Den Try.prog G 13 [.sl (key.map bD), sls ad, .sl (s.map bD)] (.tup [.c (.d (.sl ((opnV key ad s).map bD))), .c (.d (.int .i64 (opnE key ad s)))]) := den_ro2 (opn_f G key ad s hk hl hx hb)
/-! ### The reference -/
def rckSt (key : List UInt8) (ad : List (List UInt8)) (n : Int) (i : Nat) : St := ⟨ofL [(1, .w (.c (.d (sls ad)))), (2, .w (.c (.d (.int .i64 n)))), (7, .w (.c (.d (.int .i64 (i : Int)))))], hL [], uL []⟩
def lp_rchk_0 : SCode :=
  .seq (.seq (.reg [⟨(some 14), .mv (.t 7), none⟩,
    ⟨(some 15), .mv (.t 1), none⟩,
    ⟨(some 16), .len (.t 15), none⟩,
    ⟨(some 17), .bin .lss (.t 14) (.t 16), none⟩])
  (.cond (.t 17) (.skip)
   (.exit 0)))
  (.seq (.block 1 (.seq (.reg [⟨(some 20), .mv (.t 1), none⟩,
     ⟨(some 21), .mv (.t 7), none⟩,
     ⟨(some 22), .idxSl 1 (.t 20) (.t 21), none⟩,
     ⟨(some 23), .load .sc (.t 22), none⟩,
     ⟨(some 24), .len (.t 23), none⟩,
     ⟨(some 25), .bin .gtr (.t 24) (.k (.c (.d (.int .i64 65519)))), none⟩])
   (.cond (.t 25) (.seq (.reg [⟨(some 6), .mv (.k (.c (.d (.int .i64 2)))), none⟩])
    (.ret))
    (.skip))))
  (.reg [⟨(some 18), .mv (.t 7), none⟩,
    ⟨(some 19), .bin .add (.t 18) (.k (.c (.d (.int .i64 1)))), none⟩,
    ⟨(some 7), .mv (.t 19), none⟩]))
def sf_rchk : SFn := ⟨3, 28,
  .seq (.reg [⟨(some 6), .mv (.k (.c (.d (.int .i64 0)))), none⟩])
  (.seq (.seq (.reg [⟨(some 8), .mv (.t 0), none⟩,
    ⟨(some 9), .len (.t 8), none⟩,
    ⟨(some 10), .bin .neq (.t 9) (.k (.c (.d (.int .i64 32)))), none⟩])
  (.cond (.t 10) (.seq (.reg [⟨(some 6), .mv (.k (.c (.d (.int .i64 5)))), none⟩])
   (.ret))
   (.skip)))
  (.seq (.seq (.reg [⟨(some 11), .mv (.t 1), none⟩,
    ⟨(some 12), .len (.t 11), none⟩,
    ⟨(some 13), .bin .gtr (.t 12) (.k (.c (.d (.int .i64 16)))), none⟩])
  (.cond (.t 13) (.seq (.reg [⟨(some 6), .mv (.k (.c (.d (.int .i64 8)))), none⟩])
   (.ret))
   (.skip)))
  (.seq (.seq (.reg [⟨(some 7), .mv (.k (.c (.d (.int .i64 0)))), none⟩])
  (.block 0 (.loop lp_rchk_0)))
  (.seq (.seq (.reg [⟨(some 26), .mv (.t 2), none⟩,
    ⟨(some 27), .bin .gtr (.t 26) (.k (.c (.d (.int .i64 65519)))), none⟩])
  (.cond (.t 27) (.seq (.reg [⟨(some 6), .mv (.k (.c (.d (.int .i64 2)))), none⟩])
   (.ret))
   (.skip)))
  (.seq (.reg [⟨(some 6), .mv (.k (.c (.d (.int .i64 0)))), none⟩])
  (.ret)))))),
  [(6, none)]⟩
theorem cf_rchk : compFn Try.prog { own := [], comp := [], frz := [], nils := [] } Try.f27 = some sf_rchk := by kernel_rfl
set_option maxHeartbeats 1600000 in
theorem rchk_c (G : Glob) (key : List UInt8) (ad : List (List UInt8)) (n : Int) (hk : key.length ≤ 9223372036854775807) (hl : ad.length ≤ 9223372036854775807) (hb : ∀ x ∈ ad, x.length ≤ 9223372036854775807) : Den Try.prog G 27 [.sl (key.map bD), sls ad, .int .i64 n] (.w (.c (.d (.int .i64 (aeE key ad n))))) := by
  refine den_walk Try.func27 cf_rchk rfl rfl ?_
  unfold aeE
  by_cases h : key.length = 32
  · rw [if_neg (by omega)]
    by_cases h2 : 16 < ad.length
    · rw [if_pos h2]
      simp only [sf_rchk, putAll, wx, wy, wz, stV, seval, IntWalk.iteOmega, IntWalk.toNatUp, reduceCtorEq]
      exact ret_d1 (by simp only [wx, wy, wz, stV, seval, IntWalk.iteOmega, IntWalk.toNatUp, reduceCtorEq])
    · rw [if_neg h2]
      simp only [sf_rchk, putAll, wx, wy, wz, stV, seval, IntWalk.iteOmega, IntWalk.toNatUp, reduceCtorEq]
      refine loop_st (rckSt key ad n) (fun i => ad.length - i) (fun i => i ≤ ad.length ∧ ∀ j, j < i → (ad.getD j []).length ≤ 65519) 0 ⟨Nat.zero_le _, fun j hj => by omega⟩ ?_ ?_
      · refine ent_l (fun i => 0) ?_ ?_ rfl rfl <;> simp only [wx, wex, wez, stV, seval, IntWalk.iteOmega, IntWalk.toNatUp, reduceCtorEq] <;> rfl
      · rintro i ⟨hi, hok⟩
        by_cases hlt : i < ad.length
        · have g1 := getLs hlt
          have hx := hb _ (getLs_mem hlt)
          by_cases hlong : 65519 < (ad.getD i []).length
          · have hL := longA_yes hlt hlong
            rw [if_pos (.inl hL)]
            simp only [lp_rchk_0, rckSt, wx, wy, wz, stV, seval, IntWalk.iteOmega, IntWalk.toNatUp, reduceCtorEq, get_map, g1]
            exact ret_d1 (by simp only [wx, wy, wz, stV, seval, IntWalk.iteOmega, IntWalk.toNatUp, reduceCtorEq])
          · simp only [lp_rchk_0, rckSt, wx, wy, wz, stV, seval, IntWalk.iteOmega, IntWalk.toNatUp, reduceCtorEq, get_map, g1]
            refine lop_next (i + 1) (by omega) ⟨by omega, fun j hj => ?_⟩ (ent_l (fun i => i) ?_ ?_ rfl rfl)
            · rcases Nat.lt_or_ge j i with h | h
              · exact hok j h
              · obtain rfl : j = i := by omega
                omega
            all_goals simp only [wx, wex, wez, stV, seval, IntWalk.iteOmega, IntWalk.toNatUp, reduceCtorEq]
        · have hL := longA_no (l := ad) (fun j hj => hok j (by omega))
          by_cases h3 : 65519 < n
          · rw [if_pos (.inr h3)]
            simp only [lp_rchk_0, rckSt, wx, wy, wz, stV, seval, IntWalk.iteOmega, IntWalk.toNatUp, reduceCtorEq]
            exact ret_d1 (by simp only [wx, wy, wz, stV, seval, IntWalk.iteOmega, IntWalk.toNatUp, reduceCtorEq])
          · rw [if_neg (by rw [hL]; simp; omega)]
            simp only [lp_rchk_0, rckSt, wx, wy, wz, stV, seval, IntWalk.iteOmega, IntWalk.toNatUp, reduceCtorEq]
            exact ret_d1 (by simp only [wx, wy, wz, stV, seval, IntWalk.iteOmega, IntWalk.toNatUp, reduceCtorEq])
  · rw [if_pos h]
    simp only [sf_rchk, putAll, wx, wy, wz, stV, seval, IntWalk.iteOmega, IntWalk.toNatUp, reduceCtorEq]
    exact ret_d1 (by simp only [wx, wy, wz, stV, seval, IntWalk.iteOmega, IntWalk.toNatUp, reduceCtorEq])
def sf_rtag : SFn := ⟨3, 28,
  .seq (.reg [⟨(some 6), .mv (.k (.c .nil)), none⟩,
    ⟨(some 7), .mv (.k (.c (.d (.int .i64 0)))), none⟩])
  (.seq (.seq (.reg [⟨(some 9), .mv (.t 0), none⟩,
    ⟨(some 10), .mv (.t 1), none⟩,
    ⟨(some 11), .mv (.t 2), none⟩,
    ⟨(some 12), .len (.t 11), none⟩,
    ⟨(some 13), .call 27 [(.t 9), (.t 10), (.t 12)] none, none⟩,
    ⟨(some 8), .mv (.t 13), none⟩])
  (.seq (.reg [⟨(some 14), .mv (.t 8), none⟩,
    ⟨(some 15), .bin .neq (.t 14) (.k (.c (.d (.int .i64 0)))), none⟩])
  (.cond (.t 15) (.seq (.reg [⟨(some 16), .mv (.t 8), none⟩,
     ⟨(some 6), .mv (.k (.c .nil)), none⟩,
     ⟨(some 7), .mv (.t 16), none⟩])
   (.ret))
   (.skip))))
  (.seq (.reg [⟨(some 17), .mv (.t 0), none⟩,
    ⟨(some 18), .slice 1 (.t 17) none (some (.k (.c (.d (.int .i64 16))))) none, none⟩,
    ⟨(some 19), .bldSl false 0 1 (.sl []) [], none⟩,
    ⟨(some 20), .mv (.t 1), none⟩,
    ⟨(some 21), .appN false 1 24 (.t 19) (.t 20), none⟩,
    ⟨(some 22), .mv (.t 2), none⟩,
    ⟨(some 23), .bldSl false 1 1 (.sl []) [(0, (.t 22))], none⟩,
    ⟨(some 24), .app false 1 24 (.t 21) (.t 23), none⟩,
    ⟨(some 25), .call 28 [(.t 18), (.t 24)] (some (0, 1)), none⟩,
    ⟨(some 26), .extract (.t 25) 0, none⟩,
    ⟨(some 27), .extract (.t 25) 1, none⟩,
    ⟨(some 6), .mv (.t 26), none⟩,
    ⟨(some 7), .mv (.t 27), none⟩])
  (.ret))),
  [(6, none), (7, none)]⟩
theorem cf_rtag : compFn Try.prog { own := [], comp := [(25, 0)], frz := [], nils := [21] } Try.f10 = some sf_rtag := by kernel_rfl
set_option maxHeartbeats 1600000 in
theorem rtag_f (G : Glob) (key : List UInt8) (ad : List (List UInt8)) (b : List UInt8) (hk : key.length ≤ 9223372036854775807) (hl : ad.length ≤ 9223372036854775807) (hx : ∀ x ∈ ad, x.length ≤ 9223372036854775807) (hb : b.length ≤ 9223372036854775807) : Den Try.prog G 10 [.sl (key.map bD), sls ad, .sl (b.map bD)] (.tup [.c (.fr 1 ((tagV key ad b).map bD)), .c (.d (.int .i64 (aeE key ad b.length)))]) := by
  refine den_walk Try.func10 cf_rtag rfl rfl ?_
  have hc := rchk_c G key ad (b.length : Int) hk hl hx
  by_cases he : aeE key ad (b.length : Int) = 0
  · have hv : tagV key ad b = tagM key ad b := if_pos he
    obtain ⟨k1, k2, k3, k4⟩ := aeE_ok he
    have hkk : (key.take 16).length = 16 := by rw [List.length_take]; omega
    have hbb : b.length ≤ 65519 := by omega
    obtain ⟨v1, v2⟩ := vctV_ok (l := ad ++ [b]) hkk (by simp; omega) (ad_all k3 hbb)
    have hvv := rvctr_f G (key.take 16) (ad ++ [b]) (by omega) (by simp; omega) (fun x hx => Nat.le_trans (ad_all k3 hbb x hx) (by decide))
    rw [v1, v2] at hvv
    have ht : vecM (rkK (key.take 16)) (ad ++ [b]) = tagM key ad b := rfl
    rw [ht] at hvv
    have ha : (ad.map fun l => D.sl (l.map bD)) ++ [D.sl (b.map bD)] = (ad ++ [b]).map fun l => D.sl (l.map bD) := by rw [List.map_append]; rfl
    have tl : (ad ++ [b]).take (ad.length + 1) = ad ++ [b] := List.take_of_length_le (by simp)
    rw [he] at hc ⊢
    rw [hv]
    simp only [sf_rtag, putAll, wx, wy, wz, stV, seval, IntWalk.iteOmega, IntWalk.toNatUp, reduceCtorEq]
    refine st_call (hc) rfl (.inl rfl) ?_
    simp only [srcV, allSz_ls, ha, wx, wy, wz, stV, seval, IntWalk.iteOmega, IntWalk.toNatUp, reduceCtorEq]
    refine st_call hvv (by simp only [wx, wy, wz, stV, seval, IntWalk.iteOmega, IntWalk.toNatUp, reduceCtorEq, tl]) (.inr (fl_bt _ _ _ _)) ?_
    simp only [wx, wy, wz, stV, seval, IntWalk.iteOmega, IntWalk.toNatUp, reduceCtorEq]
    exact ret_f2 (by simp only [wx, wy, wz, stV, seval, IntWalk.iteOmega, IntWalk.toNatUp, reduceCtorEq]) (by simp only [wx, wy, wz, stV, seval, IntWalk.iteOmega, IntWalk.toNatUp, reduceCtorEq])
  · have hv : tagV key ad b = [] := if_neg he
    rw [hv]
    rcases aeE_val key ad b.length with e | e | e | e
    · exact absurd e he
    all_goals
      rw [e] at hc ⊢
      simp only [sf_rtag, putAll, wx, wy, wz, stV, seval, IntWalk.iteOmega, IntWalk.toNatUp, reduceCtorEq]
      refine st_call hc rfl (.inl rfl) ?_
      simp only [wx, wy, wz, stV, seval, IntWalk.iteOmega, IntWalk.toNatUp, reduceCtorEq]
      exact ret_f2 (by simp only [wx, wy, wz, stV, seval, IntWalk.iteOmega, IntWalk.toNatUp, reduceCtorEq]) (by simp only [wx, wy, wz, stV, seval, IntWalk.iteOmega, IntWalk.toNatUp, reduceCtorEq])
theorem rtag_c (G : Glob) (key : List UInt8) (ad : List (List UInt8)) (b : List UInt8) (hk : key.length ≤ 9223372036854775807) (hl : ad.length ≤ 9223372036854775807) (hx : ∀ x ∈ ad, x.length ≤ 9223372036854775807) (hb : b.length ≤ 9223372036854775807) : Den Try.prog G 10 [.sl (key.map bD), sls ad, .sl (b.map bD)] (.tup [.c (.d (.sl ((tagV key ad b).map bD))), .c (.d (.int .i64 (aeE key ad b.length)))]) := den_ro2 (rtag_f G key ad b hk hl hx hb)
def sf_rseal : SFn := ⟨3, 35,
  .seq (.reg [⟨(some 6), .mv (.k (.c .nil)), none⟩,
    ⟨(some 7), .mv (.k (.c (.d (.int .i64 0)))), none⟩])
  (.seq (.reg [⟨(some 13), .mv (.t 0), none⟩,
    ⟨(some 14), .mv (.t 1), none⟩,
    ⟨(some 15), .mv (.t 2), none⟩,
    ⟨(some 16), .call 10 [(.t 13), (.t 14), (.t 15)] none, none⟩,
    ⟨(some 12), .mv (.t 16), none⟩,
    ⟨(some 17), .extract (.t 12) 0, none⟩,
    ⟨(some 18), .extract (.t 12) 1, none⟩,
    ⟨(some 8), .mv (.t 17), none⟩,
    ⟨(some 9), .mv (.t 18), none⟩])
  (.seq (.seq (.reg [⟨(some 19), .mv (.t 9), none⟩,
    ⟨(some 20), .bin .neq (.t 19) (.k (.c (.d (.int .i64 0)))), none⟩])
  (.cond (.t 20) (.seq (.reg [⟨(some 21), .mv (.t 9), none⟩,
     ⟨(some 6), .mv (.k (.c .nil)), none⟩,
     ⟨(some 7), .mv (.t 21), none⟩])
   (.ret))
   (.skip)))
  (.seq (.reg [⟨(some 23), .mv (.t 0), none⟩,
    ⟨(some 24), .slice 1 (.t 23) (some (.k (.c (.d (.int .i64 16))))) none none, none⟩,
    ⟨(some 25), .mv (.t 8), none⟩,
    ⟨(some 26), .call 32 [(.t 25)] none, none⟩,
    ⟨(some 27), .mv (.t 2), none⟩,
    ⟨(some 28), .call 31 [(.t 24), (.t 26), (.t 27)] none, none⟩,
    ⟨(some 22), .mv (.t 28), none⟩,
    ⟨(some 29), .extract (.t 22) 0, none⟩,
    ⟨(some 30), .extract (.t 22) 1, none⟩,
    ⟨(some 10), .mv (.t 29), none⟩,
    ⟨(some 11), .mv (.t 30), none⟩])
  (.seq (.reg [⟨(some 31), .mv (.t 8), none⟩,
    ⟨(some 32), .mv (.t 10), none⟩,
    ⟨(some 33), .bldSl false 2 1 (.sl []) [(0, (.t 31)), (1, (.t 32))], none⟩,
    ⟨(some 34), .call 19 [(.t 33)] (some (0, 1)), none⟩,
    ⟨(some 6), .mv (.t 34), none⟩,
    ⟨(some 7), .mv (.k (.c (.d (.int .i64 0)))), none⟩])
  (.ret))))),
  [(6, none), (7, none)]⟩
theorem cf_rseal : compFn Try.prog { own := [34], comp := [], frz := [], nils := [] } Try.f12 = some sf_rseal := by kernel_rfl
set_option maxHeartbeats 1600000 in
theorem rseal_f (G : Glob) (key : List UInt8) (ad : List (List UInt8)) (b : List UInt8) (hk : key.length ≤ 9223372036854775807) (hl : ad.length ≤ 9223372036854775807) (hx : ∀ x ∈ ad, x.length ≤ 9223372036854775807) (hb : b.length ≤ 9223372036854775807) : Den Try.prog G 12 [.sl (key.map bD), sls ad, .sl (b.map bD)] (.tup [.c (.fr 1 ((sealV key ad b).map bD)), .c (.d (.int .i64 (aeE key ad b.length)))]) := by
  refine den_walk Try.func12 cf_rseal rfl rfl ?_
  have hc := rtag_c G key ad b hk hl hx hb
  by_cases he : aeE key ad (b.length : Int) = 0
  · have hv : tagV key ad b = tagM key ad b := if_pos he
    have hv2 : sealV key ad b = tagM key ad b ++ strS key (tagM key ad b) b := if_pos he
    obtain ⟨k1, k2, k3, k4⟩ := aeE_ok he
    have hj := rjoin_c G [tagM key ad b, strS key (tagM key ad b) b] (by simp) (by simp [tagM_len, strS_len]; omega)
    have hf : [tagM key ad b, strS key (tagM key ad b) b].flatten = tagM key ad b ++ strS key (tagM key ad b) b := by simp
    rw [hf] at hj
    have hkd : (key.drop 16).length = 16 := by rw [List.length_drop]; omega
    have hk2 : (key.drop 16).take 16 = key.drop 16 := List.take_of_length_le (by omega)
    have hct : (ctrT (tagM key ad b)).length = 16 := by rw [ctrT_len, tagM_len]
    obtain ⟨v1, v2⟩ := strmVE_ok (c := ctrT (tagM key ad b)) (b := b) hkd hct (by omega)
    have hs := rstm_c G (key.drop 16) (ctrT (tagM key ad b)) b (by omega) (by omega) (by omega)
    rw [v1, v2] at hs
    have hsS : strmC (rkK (key.drop 16)) (ctrT (tagM key ad b)) b = strS key (tagM key ad b) b := rfl
    rw [hsS] at hs
    rw [he, hv] at hc
    rw [he, hv2]
    simp only [sf_rseal, putAll, wx, wy, wz, stV, seval, IntWalk.iteOmega, IntWalk.toNatUp, reduceCtorEq]
    refine st_call (hc) rfl (.inl rfl) ?_
    simp only [k1, wx, wy, wz, stV, seval, IntWalk.iteOmega, IntWalk.toNatUp, reduceCtorEq]
    refine st_call (rctr_c G (tagM key ad b) (tagM_len _ _ _)) rfl (.inl rfl) ?_
    simp only [hk2, wx, wy, wz, stV, seval, IntWalk.iteOmega, IntWalk.toNatUp, reduceCtorEq]
    refine st_call (hs) rfl (.inl rfl) ?_
    simp only [wx, wy, wz, stV, seval, IntWalk.iteOmega, IntWalk.toNatUp, reduceCtorEq]
    refine st_call (hj) rfl (.inl rfl) ?_
    simp only [wx, wy, wz, stV, seval, IntWalk.iteOmega, IntWalk.toNatUp, reduceCtorEq]
    exact ret_f2 (by simp only [wx, wy, wz, stV, seval, IntWalk.iteOmega, IntWalk.toNatUp, reduceCtorEq]) (by simp only [wx, wy, wz, stV, seval, IntWalk.iteOmega, IntWalk.toNatUp, reduceCtorEq])
  · have hv : tagV key ad b = [] := if_neg he
    have hv2 : sealV key ad b = [] := if_neg he
    rw [hv] at hc
    rw [hv2]
    rcases aeE_val key ad b.length with e | e | e | e
    · exact absurd e he
    all_goals
      rw [e] at hc ⊢
      simp only [sf_rseal, putAll, wx, wy, wz, stV, seval, IntWalk.iteOmega, IntWalk.toNatUp, reduceCtorEq]
      refine st_call hc rfl (.inl rfl) ?_
      simp only [wx, wy, wz, stV, seval, IntWalk.iteOmega, IntWalk.toNatUp, reduceCtorEq]
      exact ret_f2 (by simp only [wx, wy, wz, stV, seval, IntWalk.iteOmega, IntWalk.toNatUp, reduceCtorEq]) (by simp only [wx, wy, wz, stV, seval, IntWalk.iteOmega, IntWalk.toNatUp, reduceCtorEq])
theorem rseal_c (G : Glob) (key : List UInt8) (ad : List (List UInt8)) (b : List UInt8) (hk : key.length ≤ 9223372036854775807) (hl : ad.length ≤ 9223372036854775807) (hx : ∀ x ∈ ad, x.length ≤ 9223372036854775807) (hb : b.length ≤ 9223372036854775807) : Den Try.prog G 12 [.sl (key.map bD), sls ad, .sl (b.map bD)] (.tup [.c (.d (.sl ((sealV key ad b).map bD))), .c (.d (.int .i64 (aeE key ad b.length)))]) := den_ro2 (rseal_f G key ad b hk hl hx hb)
def sf_ropn : SFn := ⟨3, 49,
  .seq (.reg [⟨(some 6), .mv (.k (.c .nil)), none⟩,
    ⟨(some 7), .mv (.k (.c (.d (.int .i64 0)))), none⟩])
  (.seq (.seq (.reg [⟨(some 13), .mv (.t 0), none⟩,
    ⟨(some 14), .mv (.t 1), none⟩,
    ⟨(some 15), .mv (.t 2), none⟩,
    ⟨(some 16), .len (.t 15), none⟩,
    ⟨(some 17), .bin .sub (.t 16) (.k (.c (.d (.int .i64 16)))), none⟩,
    ⟨(some 18), .call 27 [(.t 13), (.t 14), (.t 17)] none, none⟩,
    ⟨(some 8), .mv (.t 18), none⟩])
  (.seq (.reg [⟨(some 19), .mv (.t 8), none⟩,
    ⟨(some 20), .bin .neq (.t 19) (.k (.c (.d (.int .i64 0)))), none⟩])
  (.cond (.t 20) (.seq (.reg [⟨(some 21), .mv (.t 8), none⟩,
     ⟨(some 6), .mv (.k (.c .nil)), none⟩,
     ⟨(some 7), .mv (.t 21), none⟩])
   (.ret))
   (.skip))))
  (.seq (.seq (.reg [⟨(some 22), .mv (.t 2), none⟩,
    ⟨(some 23), .len (.t 22), none⟩,
    ⟨(some 24), .bin .lss (.t 23) (.k (.c (.d (.int .i64 16)))), none⟩])
  (.cond (.t 24) (.seq (.reg [⟨(some 6), .mv (.k (.c .nil)), none⟩,
     ⟨(some 7), .mv (.k (.c (.d (.int .i64 1)))), none⟩])
   (.ret))
   (.skip)))
  (.seq (.reg [⟨(some 26), .mv (.t 0), none⟩,
    ⟨(some 27), .slice 1 (.t 26) (some (.k (.c (.d (.int .i64 16))))) none none, none⟩,
    ⟨(some 28), .mv (.t 2), none⟩,
    ⟨(some 29), .slice 1 (.t 28) none (some (.k (.c (.d (.int .i64 16))))) none, none⟩,
    ⟨(some 30), .call 32 [(.t 29)] none, none⟩,
    ⟨(some 31), .mv (.t 2), none⟩,
    ⟨(some 32), .slice 1 (.t 31) (some (.k (.c (.d (.int .i64 16))))) none none, none⟩,
    ⟨(some 33), .call 31 [(.t 27), (.t 30), (.t 32)] (some (0, 1)), none⟩,
    ⟨(some 25), .mv (.t 33), none⟩,
    ⟨(some 34), .extract (.t 25) 0, none⟩,
    ⟨(some 35), .extract (.t 25) 1, none⟩,
    ⟨(some 9), .mv (.t 34), none⟩,
    ⟨(some 10), .mv (.t 35), none⟩])
  (.seq (.reg [⟨(some 37), .mv (.t 0), none⟩,
    ⟨(some 38), .mv (.t 1), none⟩,
    ⟨(some 39), .mv (.t 9), none⟩,
    ⟨(some 40), .call 10 [(.t 37), (.t 38), (.t 39)] none, none⟩,
    ⟨(some 36), .mv (.t 40), none⟩,
    ⟨(some 41), .extract (.t 36) 0, none⟩,
    ⟨(some 42), .extract (.t 36) 1, none⟩,
    ⟨(some 11), .mv (.t 41), none⟩,
    ⟨(some 12), .mv (.t 42), none⟩])
  (.seq (.seq (.reg [⟨(some 43), .mv (.t 11), none⟩,
    ⟨(some 44), .mv (.t 2), none⟩,
    ⟨(some 45), .slice 1 (.t 44) none (some (.k (.c (.d (.int .i64 16))))) none, none⟩,
    ⟨(some 46), .call 15 [(.t 43), (.t 45)] none, none⟩,
    ⟨(some 47), .un .not (.t 46), none⟩])
  (.cond (.t 47) (.seq (.reg [⟨(some 6), .mv (.k (.c .nil)), none⟩,
     ⟨(some 7), .mv (.k (.c (.d (.int .i64 6)))), none⟩])
   (.ret))
   (.skip)))
  (.seq (.reg [⟨(some 48), .mv (.t 9), none⟩,
    ⟨(some 6), .mv (.t 48), none⟩,
    ⟨(some 7), .mv (.k (.c (.d (.int .i64 0)))), none⟩])
  (.ret))))))),
  [(6, none), (7, none)]⟩
theorem cf_ropn : compFn Try.prog { own := [], comp := [(33, 0)], frz := [], nils := [] } Try.f14 = some sf_ropn := by kernel_rfl
set_option maxHeartbeats 3200000 in
theorem ropn_f (G : Glob) (key : List UInt8) (ad : List (List UInt8)) (s : List UInt8) (hk : key.length ≤ 9223372036854775807) (hl : ad.length ≤ 9223372036854775807) (hx : ∀ x ∈ ad, x.length ≤ 9223372036854775807) (hb : s.length ≤ 9223372036854775807) : Den Try.prog G 14 [.sl (key.map bD), sls ad, .sl (s.map bD)] (.tup [.c (.fr 1 ((opnV key ad s).map bD)), .c (.d (.int .i64 (opnE key ad s)))]) := by
  refine den_walk Try.func14 cf_ropn rfl rfl ?_
  have hc := rchk_c G key ad ((s.length : Int) - 16) hk hl hx
  by_cases he : aeE key ad ((s.length : Int) - 16) = 0
  · obtain ⟨k1, k2, k3, k4⟩ := aeE_ok he
    rw [he] at hc
    by_cases hs : s.length < 16
    · obtain ⟨e1, e2⟩ := opn_short he hs
      rw [e1, e2]
      simp only [sf_ropn, putAll, wx, wy, wz, stV, seval, IntWalk.iteOmega, IntWalk.toNatUp, reduceCtorEq]
      refine st_call (hc) rfl (.inl rfl) ?_
      simp only [wx, wy, wz, stV, seval, IntWalk.iteOmega, IntWalk.toNatUp, reduceCtorEq]
      exact ret_f2 (by simp only [wx, wy, wz, stV, seval, IntWalk.iteOmega, IntWalk.toNatUp, reduceCtorEq]) (by simp only [wx, wy, wz, stV, seval, IntWalk.iteOmega, IntWalk.toNatUp, reduceCtorEq])
    · have ht : (s.take 16).length = 16 := by rw [List.length_take]; omega
      have hd : (s.drop 16).length = s.length - 16 := List.length_drop
      have hd2 : (s.drop 16).take (s.length - 16) = s.drop 16 := List.take_of_length_le (by omega)
      have hkd : (key.drop 16).length = 16 := by rw [List.length_drop]; omega
      have hk2 : (key.drop 16).take 16 = key.drop 16 := List.take_of_length_le (by omega)
      have hct : (ctrT (s.take 16)).length = 16 := by rw [ctrT_len, ht]
      obtain ⟨v1, v2⟩ := strmVE_ok (c := ctrT (s.take 16)) (b := s.drop 16) hkd hct (by omega)
      have c1 := rstm_f G (key.drop 16) (ctrT (s.take 16)) (s.drop 16) (by omega) (by omega) (by omega)
      rw [v1, v2] at c1
      have hsS : strmC (rkK (key.drop 16)) (ctrT (s.take 16)) (s.drop 16) = strS key (s.take 16) (s.drop 16) := rfl
      rw [hsS] at c1
      have hsl := strS_len key (s.take 16) (s.drop 16)
      have he2 : aeE key ad ((strS key (s.take 16) (s.drop 16)).length : Int) = 0 := by
        rw [hsl, hd, show ((s.length - 16 : Nat) : Int) = (s.length : Int) - 16 by omega]; exact he
      have c2 := rtag_f G key ad (strS key (s.take 16) (s.drop 16)) hk hl hx (by omega)
      rw [he2, show tagV key ad (strS key (s.take 16) (s.drop 16)) = tagM key ad (strS key (s.take 16) (s.drop 16)) from if_pos he2] at c2
      have c3 := rsame_c G (tagM key ad (strS key (s.take 16) (s.drop 16))) (s.take 16)
      by_cases hq : s.take 16 = tagM key ad (strS key (s.take 16) (s.drop 16))
      · obtain ⟨e1, e2⟩ := opn_ok he hs hq
        have hb : (tagM key ad (strS key (s.take 16) (s.drop 16)) == s.take 16) = true := beq_iff_eq.2 hq.symm
        rw [hb] at c3
        rw [e1, e2]
        simp only [sf_ropn, putAll, wx, wy, wz, stV, seval, IntWalk.iteOmega, IntWalk.toNatUp, reduceCtorEq]
        refine st_call (hc) rfl (.inl rfl) ?_
        simp only [k1, wx, wy, wz, stV, seval, IntWalk.iteOmega, IntWalk.toNatUp, reduceCtorEq]
        refine st_call (rctr_c G (s.take 16) ht) rfl (.inl rfl) ?_
        simp only [hk2, hd2, wx, wy, wz, stV, seval, IntWalk.iteOmega, IntWalk.toNatUp, reduceCtorEq]
        refine st_call (c1) rfl (.inl rfl) ?_
        simp only [wx, wy, wz, stV, seval, IntWalk.iteOmega, IntWalk.toNatUp, reduceCtorEq]
        refine st_call c2 (by simp only [wx, wy, wz, stV, seval, IntWalk.iteOmega, IntWalk.toNatUp, reduceCtorEq]) (.inr (fl_bt _ _ _ _)) ?_
        simp only [wx, wy, wz, stV, seval, IntWalk.iteOmega, IntWalk.toNatUp, reduceCtorEq]
        refine st_call (c3) rfl (.inl rfl) ?_
        simp only [wx, wy, wz, stV, seval, IntWalk.iteOmega, IntWalk.toNatUp, reduceCtorEq]
        exact ret_f2 (by simp only [wx, wy, wz, stV, seval, IntWalk.iteOmega, IntWalk.toNatUp, reduceCtorEq]) (by simp only [wx, wy, wz, stV, seval, IntWalk.iteOmega, IntWalk.toNatUp, reduceCtorEq])
      · obtain ⟨e1, e2⟩ := opn_auth he hs hq
        have hb : (tagM key ad (strS key (s.take 16) (s.drop 16)) == s.take 16) = false := by
          rw [beq_eq_false_iff_ne]; exact fun e => hq e.symm
        rw [hb] at c3
        rw [e1, e2]
        simp only [sf_ropn, putAll, wx, wy, wz, stV, seval, IntWalk.iteOmega, IntWalk.toNatUp, reduceCtorEq]
        refine st_call (hc) rfl (.inl rfl) ?_
        simp only [k1, wx, wy, wz, stV, seval, IntWalk.iteOmega, IntWalk.toNatUp, reduceCtorEq]
        refine st_call (rctr_c G (s.take 16) ht) rfl (.inl rfl) ?_
        simp only [hk2, hd2, wx, wy, wz, stV, seval, IntWalk.iteOmega, IntWalk.toNatUp, reduceCtorEq]
        refine st_call (c1) rfl (.inl rfl) ?_
        simp only [wx, wy, wz, stV, seval, IntWalk.iteOmega, IntWalk.toNatUp, reduceCtorEq]
        refine st_call c2 (by simp only [wx, wy, wz, stV, seval, IntWalk.iteOmega, IntWalk.toNatUp, reduceCtorEq]) (.inr (fl_bt _ _ _ _)) ?_
        simp only [wx, wy, wz, stV, seval, IntWalk.iteOmega, IntWalk.toNatUp, reduceCtorEq]
        refine st_call (c3) rfl (.inl rfl) ?_
        simp only [wx, wy, wz, stV, seval, IntWalk.iteOmega, IntWalk.toNatUp, reduceCtorEq]
        exact ret_f2 (by simp only [wx, wy, wz, stV, seval, IntWalk.iteOmega, IntWalk.toNatUp, reduceCtorEq]) (by simp only [wx, wy, wz, stV, seval, IntWalk.iteOmega, IntWalk.toNatUp, reduceCtorEq])
  · obtain ⟨e1, e2⟩ := opn_err he
    rw [e1, e2]
    rcases aeE_val key ad ((s.length : Int) - 16) with e | e | e | e
    · exact absurd e he
    all_goals
      rw [e] at hc ⊢
      simp only [sf_ropn, putAll, wx, wy, wz, stV, seval, IntWalk.iteOmega, IntWalk.toNatUp, reduceCtorEq]
      refine st_call hc rfl (.inl rfl) ?_
      simp only [wx, wy, wz, stV, seval, IntWalk.iteOmega, IntWalk.toNatUp, reduceCtorEq]
      exact ret_f2 (by simp only [wx, wy, wz, stV, seval, IntWalk.iteOmega, IntWalk.toNatUp, reduceCtorEq]) (by simp only [wx, wy, wz, stV, seval, IntWalk.iteOmega, IntWalk.toNatUp, reduceCtorEq])
theorem ropn_c (G : Glob) (key : List UInt8) (ad : List (List UInt8)) (s : List UInt8) (hk : key.length ≤ 9223372036854775807) (hl : ad.length ≤ 9223372036854775807) (hx : ∀ x ∈ ad, x.length ≤ 9223372036854775807) (hb : s.length ≤ 9223372036854775807) : Den Try.prog G 14 [.sl (key.map bD), sls ad, .sl (s.map bD)] (.tup [.c (.d (.sl ((opnV key ad s).map bD))), .c (.d (.int .i64 (opnE key ad s)))]) := den_ro2 (ropn_f G key ad s hk hl hx hb)
end Go.Proofs.Ytipjekggnanffaa
set_option linter.unusedVariables false
set_option linter.unusedSimpArgs false
namespace Go.Proofs.Ytipjekggnanffaa
open Go.RowKit
def key6 : List UInt8 := [255, 254, 253, 252, 251, 250, 249, 248, 247, 246, 245, 244, 243, 242, 241, 240, 240, 241, 242, 243, 244, 245, 246, 247, 248, 249, 250, 251, 252, 253, 254, 255]
def ad6 : List UInt8 := [16, 17, 18, 19, 20, 21, 22, 23, 24, 25, 26, 27, 28, 29, 30, 31, 32, 33, 34, 35, 36, 37, 38, 39]
def in6 : List UInt8 := [17, 34, 51, 68, 85, 102, 119, 136, 153, 170, 187, 204, 221, 238]
def key6a : List UInt8 := [255, 254, 253, 252, 251, 250, 249, 248, 247, 246, 245, 244, 243, 242, 241, 240]
theorem key6a_k0 : kb key6a 0 = [255, 254, 253, 252, 251, 250, 249, 248, 247, 246, 245, 244, 243, 242, 241, 240] := rfl
theorem key6a_k1 : kb key6a 1 = [119, 95, 113, 241, 140, 165, 136, 9, 123, 83, 125, 253, 136, 161, 140, 13] := by rw [kb_next (key := key6a) rfl 0, key6a_k0]; decide +kernel
theorem key6a_k2 : kb key6a 2 = [71, 59, 166, 53, 203, 158, 46, 60, 176, 205, 83, 193, 56, 108, 223, 204] := by rw [kb_next (key := key6a) rfl 1, key6a_k1]; decide +kernel
theorem key6a_k3 : kb key6a 3 = [19, 165, 237, 50, 216, 59, 195, 14, 104, 246, 144, 207, 80, 154, 79, 3] := by rw [kb_next (key := key6a) rfl 2, key6a_k2]; decide +kernel
theorem key6a_k4 : kb key6a 4 = [163, 33, 150, 97, 123, 26, 85, 111, 19, 236, 197, 160, 67, 118, 138, 163] := by rw [kb_next (key := key6a) rfl 3, key6a_k3]; decide +kernel
theorem key6a_k5 : kb key6a 5 = [139, 95, 156, 123, 240, 69, 201, 20, 227, 169, 12, 180, 160, 223, 134, 23] := by rw [kb_next (key := key6a) rfl 4, key6a_k4]; decide +kernel
theorem key6a_k6 : kb key6a 6 = [53, 27, 108, 155, 197, 94, 165, 143, 38, 247, 169, 59, 134, 40, 47, 44] := by rw [kb_next (key := key6a) rfl 5, key6a_k5]; decide +kernel
theorem key6a_k7 : kb key6a 7 = [65, 14, 29, 223, 132, 80, 184, 80, 162, 167, 17, 107, 36, 143, 62, 71] := by rw [kb_next (key := key6a) rfl 6, key6a_k6]; decide +kernel
theorem key6a_k8 : kb key6a 8 = [178, 188, 189, 233, 54, 236, 5, 185, 148, 75, 20, 210, 176, 196, 42, 149] := by rw [kb_next (key := key6a) rfl 7, key6a_k7]; decide +kernel
theorem key6a_k9 : kb key6a 9 = [181, 89, 151, 14, 131, 181, 146, 183, 23, 254, 134, 101, 167, 58, 172, 240] := by rw [kb_next (key := key6a) rfl 8, key6a_k8]; decide +kernel
theorem key6a_k10 : kb key6a 10 = [3, 200, 27, 82, 128, 125, 137, 229, 151, 131, 15, 128, 48, 185, 163, 112] := by rw [kb_next (key := key6a) rfl 9, key6a_k9]; decide +kernel
def key6b : List UInt8 := [240, 241, 242, 243, 244, 245, 246, 247, 248, 249, 250, 251, 252, 253, 254, 255]
theorem key6b_k0 : kb key6b 0 = [240, 241, 242, 243, 244, 245, 246, 247, 248, 249, 250, 251, 252, 253, 254, 255] := rfl
theorem key6b_k1 : kb key6b 1 = [165, 74, 228, 67, 81, 191, 18, 180, 169, 70, 232, 79, 85, 187, 22, 176] := by rw [kb_next (key := key6b) rfl 0, key6b_k0]; decide +kernel
theorem key6b_k2 : kb key6b 2 = [77, 13, 3, 191, 28, 178, 17, 11, 181, 244, 249, 68, 224, 79, 239, 244] := by rw [kb_next (key := key6b) rfl 1, key6b_k1]; decide +kernel
theorem key6b_k3 : kb key6b 3 = [205, 210, 188, 94, 209, 96, 173, 85, 100, 148, 84, 17, 132, 219, 187, 229] := by rw [kb_next (key := key6b) rfl 2, key6b_k2]; decide +kernel
theorem key6b_k4 : kb key6b 4 = [124, 56, 101, 1, 173, 88, 200, 84, 201, 204, 156, 69, 77, 23, 39, 160] := by rw [kb_next (key := key6b) rfl 3, key6b_k3]; decide +kernel
theorem key6b_k5 : kb key6b 5 = [156, 244, 133, 226, 49, 172, 77, 182, 248, 96, 209, 243, 181, 119, 246, 83] := by rw [kb_next (key := key6b) rfl 4, key6b_k4]; decide +kernel
theorem key6b_k6 : kb key6b 6 = [73, 182, 104, 55, 120, 26, 37, 129, 128, 122, 244, 114, 53, 13, 2, 33] := by rw [kb_next (key := key6b) rfl 5, key6b_k5]; decide +kernel
theorem key6b_k7 : kb key6b 7 = [222, 193, 149, 161, 166, 219, 176, 32, 38, 161, 68, 82, 19, 172, 70, 115] := by rw [kb_next (key := key6b) rfl 6, key6b_k6]; decide +kernel
theorem key6b_k8 : kb key6b 8 = [207, 155, 26, 220, 105, 64, 170, 252, 79, 225, 238, 174, 92, 77, 168, 221] := by rw [kb_next (key := key6b) rfl 7, key6b_k7]; decide +kernel
theorem key6b_k9 : kb key6b 9 = [55, 89, 219, 150, 94, 25, 113, 106, 17, 248, 159, 196, 77, 181, 55, 25] := by rw [kb_next (key := key6b) rfl 8, key6b_k8]; decide +kernel
theorem key6b_k10 : kb key6b 10 = [212, 195, 15, 117, 138, 218, 126, 31, 155, 34, 225, 219, 214, 151, 214, 194] := by rw [kb_next (key := key6b) rfl 9, key6b_k9]; decide +kernel
theorem enc6z_s0 : toL (encF (keyF (rkK key6a)) (ofB16 (zero16 : List UInt8)) 0) = [255, 254, 253, 252, 251, 250, 249, 248, 247, 246, 245, 244, 243, 242, 241, 240] := by rw [← addL_enc _ _ rfl, kb_toL (key := key6a) rfl (by decide), key6a_k0]; decide +kernel
theorem enc6z_s1 : toL (encF (keyF (rkK key6a)) (ofB16 (zero16 : List UInt8)) 1) = [70, 174, 18, 3, 69, 102, 87, 128, 62, 143, 247, 26, 98, 206, 201, 93] := by rw [← rnd_enc (n := 0) _ _ (by decide), enc6z_s0, kb_toL (key := key6a) (r := 1) rfl (by decide), key6a_k1]; decide +kernel
theorem enc6z_s2 : toL (encF (keyF (rkK key6a)) (ofB16 (zero16 : List UInt8)) 2) = [130, 243, 203, 24, 36, 17, 31, 214, 77, 255, 175, 207, 185, 90, 218, 201] := by rw [← rnd_enc (n := 1) _ _ (by decide), enc6z_s1, kb_toL (key := key6a) (r := 2) rfl (by decide), key6a_k2]; decide +kernel
theorem enc6z_s3 : toL (encF (keyF (rkK key6a)) (ofB16 (zero16 : List UInt8)) 3) = [12, 255, 242, 93, 116, 117, 161, 84, 133, 165, 242, 167, 161, 7, 10, 59] := by rw [← rnd_enc (n := 2) _ _ (by decide), enc6z_s2, kb_toL (key := key6a) (r := 3) rfl (by decide), key6a_k3]; decide +kernel
theorem enc6z_s4 : toL (encF (keyF (rkK key6a)) (ofB16 (zero16 : List UInt8)) 4) = [147, 156, 193, 179, 101, 97, 219, 59, 219, 74, 254, 14, 115, 98, 46, 105] := by rw [← rnd_enc (n := 3) _ _ (by decide), enc6z_s3, kb_toL (key := key6a) (r := 4) rfl (by decide), key6a_k4]; decide +kernel
theorem enc6z_s5 : toL (encF (keyF (rkK key6a)) (ofB16 (zero16 : List UInt8)) 5) = [64, 105, 210, 185, 87, 129, 135, 254, 245, 53, 210, 105, 206, 140, 88, 183] := by rw [← rnd_enc (n := 4) _ _ (by decide), enc6z_s4, kb_toL (key := key6a) (r := 5) rfl (by decide), key6a_k5]; decide +kernel
theorem enc6z_s6 : toL (encF (keyF (rkK key6a)) (ofB16 (zero16 : List UInt8)) 6) = [47, 103, 248, 112, 238, 218, 70, 50, 83, 166, 140, 182, 117, 138, 99, 173] := by rw [← rnd_enc (n := 5) _ _ (by decide), enc6z_s5, kb_toL (key := key6a) (r := 6) rfl (by decide), key6a_k6]; decide +kernel
theorem enc6z_s7 : toL (encF (keyF (rkK key6a)) (ofB16 (zero16 : List UInt8)) 7) = [99, 140, 51, 226, 18, 119, 170, 85, 131, 86, 101, 62, 133, 163, 64, 184] := by rw [← rnd_enc (n := 6) _ _ (by decide), enc6z_s6, kb_toL (key := key6a) (r := 7) rfl (by decide), key6a_k7]; decide +kernel
theorem enc6z_s8 : toL (encF (keyF (rkK key6a)) (ofB16 (zero16 : List UInt8)) 8) = [122, 13, 157, 159, 230, 223, 220, 106, 118, 17, 112, 215, 55, 198, 87, 128] := by rw [← rnd_enc (n := 7) _ _ (by decide), enc6z_s7, kb_toL (key := key6a) (r := 8) rfl (by decide), key6a_k8]; decide +kernel
theorem enc6z_s9 : toL (encF (keyF (rkK key6a)) (ofB16 (zero16 : List UInt8)) 9) = [63, 154, 61, 53, 153, 18, 94, 74, 252, 85, 176, 195, 98, 138, 228, 8] := by rw [← rnd_enc (n := 8) _ _ (by decide), enc6z_s8, kb_toL (key := key6a) (r := 9) rfl (by decide), key6a_k9]; decide +kernel
theorem enc6z : encK (rkK key6a) (zero16 : List UInt8) = [118, 1, 252, 98, 110, 129, 224, 115, 39, 253, 40, 86, 154, 1, 251, 94] := by rw [← last_enc, enc6z_s9, kb_toL (key := key6a) (r := 10) rfl (by decide), key6a_k10]; decide +kernel
theorem sub1_6 : sub1 (rkK key6a) = [236, 3, 248, 196, 221, 3, 192, 230, 79, 250, 80, 173, 52, 3, 246, 188] := by unfold sub1; rw [enc6z]; decide +kernel
theorem sub2_6 : sub2 (rkK key6a) = [216, 7, 241, 137, 186, 7, 129, 204, 159, 244, 161, 90, 104, 7, 237, 255] := by unfold sub2; rw [sub1_6]; decide +kernel
theorem enc6d_s0 : toL (encF (keyF (rkK key6a)) (ofB16 ([236, 3, 248, 196, 221, 3, 192, 230, 79, 250, 80, 173, 52, 3, 246, 188] : List UInt8)) 0) = [19, 253, 5, 56, 38, 249, 57, 30, 184, 12, 165, 89, 199, 241, 7, 76] := by rw [← addL_enc _ _ rfl, kb_toL (key := key6a) rfl (by decide), key6a_k0]; decide +kernel
theorem enc6d_s1 : toL (encF (keyF (rkK key6a)) (ofB16 ([236, 3, 248, 196, 221, 3, 192, 230, 79, 250, 80, 173, 52, 3, 246, 188] : List UInt8)) 1) = [18, 40, 226, 187, 162, 230, 25, 62, 66, 169, 240, 103, 58, 50, 124, 151] := by rw [← rnd_enc (n := 0) _ _ (by decide), enc6d_s0, kb_toL (key := key6a) (r := 1) rfl (by decide), key6a_k1]; decide +kernel
theorem enc6d_s2 : toL (encF (keyF (rkK key6a)) (ofB16 ([236, 3, 248, 196, 221, 3, 192, 230, 79, 250, 80, 173, 52, 3, 246, 188] : List UInt8)) 2) = [67, 242, 97, 124, 43, 195, 194, 126, 167, 166, 186, 113, 46, 102, 76, 166] := by rw [← rnd_enc (n := 1) _ _ (by decide), enc6d_s1, kb_toL (key := key6a) (r := 2) rfl (by decide), key6a_k2]; decide +kernel
theorem enc6d_s3 : toL (encF (keyF (rkK key6a)) (ofB16 ([236, 3, 248, 196, 221, 3, 192, 230, 79, 250, 80, 173, 52, 3, 246, 188] : List UInt8)) 3) = [133, 192, 70, 142, 116, 233, 116, 43, 153, 21, 52, 10, 52, 110, 67, 161] := by rw [← rnd_enc (n := 2) _ _ (by decide), enc6d_s2, kb_toL (key := key6a) (r := 3) rfl (by decide), key6a_k3]; decide +kernel
theorem enc6d_s4 : toL (encF (keyF (rkK key6a)) (ofB16 ([236, 3, 248, 196, 221, 3, 192, 230, 79, 250, 80, 173, 52, 3, 246, 188] : List UInt8)) 4) = [158, 144, 121, 161, 172, 13, 129, 179, 197, 56, 8, 181, 83, 203, 190, 109] := by rw [← rnd_enc (n := 3) _ _ (by decide), enc6d_s3, kb_toL (key := key6a) (r := 4) rfl (by decide), key6a_k4]; decide +kernel
theorem enc6d_s5 : toL (encF (keyF (rkK key6a)) (ofB16 ([236, 3, 248, 196, 221, 3, 192, 230, 79, 250, 80, 173, 52, 3, 246, 188] : List UInt8)) 5) = [243, 141, 100, 249, 92, 1, 78, 113, 78, 157, 117, 54, 24, 51, 119, 230] := by rw [← rnd_enc (n := 4) _ _ (by decide), enc6d_s4, kb_toL (key := key6a) (r := 5) rfl (by decide), key6a_k5]; decide +kernel
theorem enc6d_s6 : toL (encF (keyF (rkK key6a)) (ofB16 ([236, 3, 248, 196, 221, 3, 192, 230, 79, 250, 80, 173, 52, 3, 246, 188] : List UInt8)) 6) = [184, 220, 181, 106, 223, 53, 240, 211, 198, 35, 61, 151, 10, 75, 142, 184] := by rw [← rnd_enc (n := 5) _ _ (by decide), enc6d_s5, kb_toL (key := key6a) (r := 6) rfl (by decide), key6a_k6]; decide +kernel
theorem enc6d_s7 : toL (encF (keyF (rkK key6a)) (ofB16 ([236, 3, 248, 196, 221, 3, 192, 230, 79, 250, 80, 173, 52, 3, 246, 188] : List UInt8)) 7) = [115, 80, 29, 2, 210, 171, 52, 210, 172, 108, 13, 6, 127, 248, 95, 239] := by rw [← rnd_enc (n := 6) _ _ (by decide), enc6d_s6, kb_toL (key := key6a) (r := 7) rfl (by decide), key6a_k7]; decide +kernel
theorem enc6d_s8 : toL (encF (keyF (rkK key6a)) (ofB16 ([236, 3, 248, 196, 221, 3, 192, 230, 79, 250, 80, 173, 52, 3, 246, 188] : List UInt8)) 8) = [25, 74, 159, 115, 15, 196, 252, 12, 127, 26, 83, 238, 141, 247, 42, 109] := by rw [← rnd_enc (n := 7) _ _ (by decide), enc6d_s7, kb_toL (key := key6a) (r := 8) rfl (by decide), key6a_k8]; decide +kernel
theorem enc6d_s9 : toL (encF (keyF (rkK key6a)) (ofB16 ([236, 3, 248, 196, 221, 3, 192, 230, 79, 250, 80, 173, 52, 3, 246, 188] : List UInt8)) 9) = [243, 165, 218, 224, 248, 39, 29, 111, 53, 116, 136, 92, 228, 51, 36, 33] := by rw [← rnd_enc (n := 8) _ _ (by decide), enc6d_s8, kb_toL (key := key6a) (r := 9) rfl (by decide), key6a_k9]; decide +kernel
theorem enc6d : encK (rkK key6a) ([236, 3, 248, 196, 221, 3, 192, 230, 79, 250, 80, 173, 52, 3, 246, 188] : List UInt8) = [14, 4, 223, 175, 193, 239, 191, 4, 1, 64, 88, 40, 89, 191, 7, 58] := by rw [← last_enc, enc6d_s9, kb_toL (key := key6a) (r := 10) rfl (by decide), key6a_k10]; decide +kernel
theorem mac6z : macM (rkK key6a) zero16 = [14, 4, 223, 175, 193, 239, 191, 4, 1, 64, 88, 40, 89, 191, 7, 58] := by
  have h : macM (rkK key6a) zero16 = encK (rkK key6a) (xorP zero16 (xorP zero16 (sub1 (rkK key6a)))) := rfl
  rw [h, sub1_6, show xorP zero16 (xorP zero16 [236, 3, 248, 196, 221, 3, 192, 230, 79, 250, 80, 173, 52, 3, 246, 188]) = [236, 3, 248, 196, 221, 3, 192, 230, 79, 250, 80, 173, 52, 3, 246, 188] by decide +kernel, enc6d]
theorem enc6a_s0 : toL (encF (keyF (rkK key6a)) (ofB16 ([16, 17, 18, 19, 20, 21, 22, 23, 24, 25, 26, 27, 28, 29, 30, 31] : List UInt8)) 0) = [239, 239, 239, 239, 239, 239, 239, 239, 239, 239, 239, 239, 239, 239, 239, 239] := by rw [← addL_enc _ _ rfl, kb_toL (key := key6a) rfl (by decide), key6a_k0]; decide +kernel
theorem enc6a_s1 : toL (encF (keyF (rkK key6a)) (ofB16 ([16, 17, 18, 19, 20, 21, 22, 23, 24, 25, 26, 27, 28, 29, 30, 31] : List UInt8)) 1) = [168, 128, 174, 46, 83, 122, 87, 214, 164, 140, 162, 34, 87, 126, 83, 210] := by rw [← rnd_enc (n := 0) _ _ (by decide), enc6a_s0, kb_toL (key := key6a) (r := 1) rfl (by decide), key6a_k1]; decide +kernel
theorem enc6a_s2 : toL (encF (keyF (rkK key6a)) (ofB16 ([16, 17, 18, 19, 20, 21, 22, 23, 24, 25, 26, 27, 28, 29, 30, 31] : List UInt8)) 2) = [34, 173, 14, 249, 122, 166, 53, 251, 62, 184, 59, 250, 10, 200, 81, 138] := by rw [← rnd_enc (n := 1) _ _ (by decide), enc6a_s1, kb_toL (key := key6a) (r := 2) rfl (by decide), key6a_k2]; decide +kernel
theorem enc6a_s3 : toL (encF (keyF (rkK key6a)) (ofB16 ([16, 17, 18, 19, 20, 21, 22, 23, 24, 25, 26, 27, 28, 29, 30, 31] : List UInt8)) 3) = [222, 61, 7, 166, 139, 200, 124, 239, 144, 102, 150, 95, 129, 64, 253, 243] := by rw [← rnd_enc (n := 2) _ _ (by decide), enc6a_s2, kb_toL (key := key6a) (r := 3) rfl (by decide), key6a_k3]; decide +kernel
theorem enc6a_s4 : toL (encF (keyF (rkK key6a)) (ofB16 ([16, 17, 18, 19, 20, 21, 22, 23, 24, 25, 26, 27, 28, 29, 30, 31] : List UInt8)) 4) = [39, 81, 79, 36, 36, 153, 159, 7, 210, 21, 71, 105, 237, 203, 203, 5] := by rw [← rnd_enc (n := 3) _ _ (by decide), enc6a_s3, kb_toL (key := key6a) (r := 4) rfl (by decide), key6a_k4]; decide +kernel
theorem enc6a_s5 : toL (encF (keyF (rkK key6a)) (ofB16 ([16, 17, 18, 19, 20, 21, 22, 23, 24, 25, 26, 27, 28, 29, 30, 31] : List UInt8)) 5) = [234, 196, 88, 172, 94, 214, 194, 100, 242, 112, 225, 122, 64, 188, 191, 11] := by rw [← rnd_enc (n := 4) _ _ (by decide), enc6a_s4, kb_toL (key := key6a) (r := 5) rfl (by decide), key6a_k5]; decide +kernel
theorem enc6a_s6 : toL (encF (keyF (rkK key6a)) (ofB16 ([16, 17, 18, 19, 20, 21, 22, 23, 24, 25, 26, 27, 28, 29, 30, 31] : List UInt8)) 6) = [242, 83, 139, 81, 31, 45, 20, 7, 169, 73, 84, 50, 79, 172, 5, 161] := by rw [← rnd_enc (n := 5) _ _ (by decide), enc6a_s5, kb_toL (key := key6a) (r := 6) rfl (by decide), key6a_k6]; decide +kernel
theorem enc6a_s7 : toL (encF (keyF (rkK key6a)) (ofB16 ([16, 17, 18, 19, 20, 21, 22, 23, 24, 25, 26, 27, 28, 29, 30, 31] : List UInt8)) 7) = [41, 126, 90, 195, 232, 138, 253, 226, 79, 207, 125, 56, 194, 252, 221, 129] := by rw [← rnd_enc (n := 6) _ _ (by decide), enc6a_s6, kb_toL (key := key6a) (r := 7) rfl (by decide), key6a_k7]; decide +kernel
theorem enc6a_s8 : toL (encF (keyF (rkK key6a)) (ofB16 ([16, 17, 18, 19, 20, 21, 22, 23, 24, 25, 26, 27, 28, 29, 30, 31] : List UInt8)) 8) = [146, 243, 151, 132, 113, 14, 255, 24, 106, 245, 244, 96, 167, 231, 93, 83] := by rw [← rnd_enc (n := 7) _ _ (by decide), enc6a_s7, kb_toL (key := key6a) (r := 8) rfl (by decide), key6a_k8]; decide +kernel
theorem enc6a_s9 : toL (encF (keyF (rkK key6a)) (ofB16 ([16, 17, 18, 19, 20, 21, 22, 23, 24, 25, 26, 27, 28, 29, 30, 31] : List UInt8)) 9) = [159, 108, 58, 10, 252, 74, 174, 93, 145, 225, 247, 62, 206, 150, 186, 180] := by rw [← rnd_enc (n := 8) _ _ (by decide), enc6a_s8, kb_toL (key := key6a) (r := 9) rfl (by decide), key6a_k9]; decide +kernel
theorem enc6a : encK (rkK key6a) ([16, 17, 18, 19, 20, 21, 22, 23, 24, 25, 26, 27, 28, 29, 30, 31] : List UInt8) = [216, 30, 115, 223, 48, 133, 125, 130, 22, 19, 143, 204, 187, 233, 71, 194] := by rw [← last_enc, enc6a_s9, kb_toL (key := key6a) (r := 10) rfl (by decide), key6a_k10]; decide +kernel
theorem enc6b_s0 : toL (encF (keyF (rkK key6a)) (ofB16 ([32, 56, 160, 117, 174, 167, 218, 105, 9, 231, 46, 150, 211, 238, 170, 61] : List UInt8)) 0) = [223, 198, 93, 137, 85, 93, 35, 145, 254, 17, 219, 98, 32, 28, 91, 205] := by rw [← addL_enc _ _ rfl, kb_toL (key := key6a) rfl (by decide), key6a_k0]; decide +kernel
theorem enc6b_s1 : toL (encF (keyF (rkK key6a)) (ofB16 ([32, 56, 160, 117, 174, 167, 218, 105, 9, 231, 46, 150, 211, 238, 170, 61] : List UInt8)) 1) = [128, 52, 22, 220, 108, 170, 118, 248, 100, 158, 90, 226, 182, 165, 38, 18] := by rw [← rnd_enc (n := 0) _ _ (by decide), enc6b_s0, kb_toL (key := key6a) (r := 1) rfl (by decide), key6a_k1]; decide +kernel
theorem enc6b_s2 : toL (encF (keyF (rkK key6a)) (ofB16 ([32, 56, 160, 117, 174, 167, 218, 105, 9, 231, 46, 150, 211, 238, 170, 61] : List UInt8)) 2) = [94, 165, 224, 226, 7, 92, 17, 39, 58, 10, 91, 199, 44, 194, 74, 21] := by rw [← rnd_enc (n := 1) _ _ (by decide), enc6b_s1, kb_toL (key := key6a) (r := 2) rfl (by decide), key6a_k2]; decide +kernel
theorem enc6b_s3 : toL (encF (keyF (rkK key6a)) (ofB16 ([32, 56, 160, 117, 174, 167, 218, 105, 9, 231, 46, 150, 211, 238, 170, 61] : List UInt8)) 3) = [29, 123, 102, 27, 174, 201, 101, 192, 49, 200, 163, 19, 252, 188, 118, 131] := by rw [← rnd_enc (n := 2) _ _ (by decide), enc6b_s2, kb_toL (key := key6a) (r := 3) rfl (by decide), key6a_k3]; decide +kernel
theorem enc6b_s4 : toL (encF (keyF (rkK key6a)) (ofB16 ([32, 56, 160, 117, 174, 167, 218, 105, 9, 231, 46, 150, 211, 238, 170, 61] : List UInt8)) 4) = [106, 214, 212, 130, 28, 210, 195, 205, 160, 14, 212, 203, 107, 46, 6, 254] := by rw [← rnd_enc (n := 3) _ _ (by decide), enc6b_s3, kb_toL (key := key6a) (r := 4) rfl (by decide), key6a_k4]; decide +kernel
theorem enc6b_s5 : toL (encF (keyF (rkK key6a)) (ofB16 ([32, 56, 160, 117, 174, 167, 218, 105, 9, 231, 46, 150, 211, 238, 170, 61] : List UInt8)) 5) = [184, 79, 109, 237, 73, 54, 21, 73, 158, 78, 145, 151, 110, 58, 114, 112] := by rw [← rnd_enc (n := 4) _ _ (by decide), enc6b_s4, kb_toL (key := key6a) (r := 5) rfl (by decide), key6a_k5]; decide +kernel
theorem enc6b_s6 : toL (encF (keyF (rkK key6a)) (ofB16 ([32, 56, 160, 117, 174, 167, 218, 105, 9, 231, 46, 150, 211, 238, 170, 61] : List UInt8)) 6) = [50, 180, 239, 9, 215, 174, 206, 7, 172, 152, 23, 236, 229, 199, 5, 64] := by rw [← rnd_enc (n := 5) _ _ (by decide), enc6b_s5, kb_toL (key := key6a) (r := 6) rfl (by decide), key6a_k6]; decide +kernel
theorem enc6b_s7 : toL (encF (keyF (rkK key6a)) (ofB16 ([32, 56, 160, 117, 174, 167, 218, 105, 9, 231, 46, 150, 211, 238, 170, 61] : List UInt8)) 7) = [201, 252, 58, 188, 56, 110, 37, 109, 208, 30, 183, 75, 68, 31, 46, 182] := by rw [← rnd_enc (n := 6) _ _ (by decide), enc6b_s6, kb_toL (key := key6a) (r := 7) rfl (by decide), key6a_k7]; decide +kernel
theorem enc6b_s8 : toL (encF (keyF (rkK key6a)) (ofB16 ([32, 56, 160, 117, 174, 167, 218, 105, 9, 231, 46, 150, 211, 238, 170, 61] : List UInt8)) 8) = [78, 234, 100, 63, 250, 57, 189, 57, 147, 7, 251, 122, 193, 86, 49, 74] := by rw [← rnd_enc (n := 7) _ _ (by decide), enc6b_s7, kb_toL (key := key6a) (r := 8) rfl (by decide), key6a_k8]; decide +kernel
theorem enc6b_s9 : toL (encF (keyF (rkK key6a)) (ofB16 ([32, 56, 160, 117, 174, 167, 218, 105, 9, 231, 46, 150, 211, 238, 170, 61] : List UInt8)) 9) = [4, 149, 213, 213, 63, 46, 112, 40, 45, 140, 91, 204, 101, 3, 210, 42] := by rw [← rnd_enc (n := 8) _ _ (by decide), enc6b_s8, kb_toL (key := key6a) (r := 9) rfl (by decide), key6a_k9]; decide +kernel
theorem enc6b : encK (rkK key6a) ([32, 56, 160, 117, 174, 167, 218, 105, 9, 231, 46, 150, 211, 238, 170, 61] : List UInt8) = [241, 249, 34, 183, 245, 25, 60, 230, 79, 248, 12, 180, 125, 147, 242, 59] := by rw [← last_enc, enc6b_s9, kb_toL (key := key6a) (r := 10) rfl (by decide), key6a_k10]; decide +kernel
theorem mac6a : macM (rkK key6a) ad6 = [241, 249, 34, 183, 245, 25, 60, 230, 79, 248, 12, 180, 125, 147, 242, 59] := by
  have h : macM (rkK key6a) ad6 = encK (rkK key6a) (xorP (encK (rkK key6a) (xorP zero16 (ad6.take 16))) (xorP (padL (ad6.drop 16 ++ [128])) (sub2 (rkK key6a)))) := rfl
  rw [h, sub2_6, show xorP zero16 (ad6.take 16) = [16, 17, 18, 19, 20, 21, 22, 23, 24, 25, 26, 27, 28, 29, 30, 31] by decide +kernel, enc6a, show xorP [216, 30, 115, 223, 48, 133, 125, 130, 22, 19, 143, 204, 187, 233, 71, 194] (xorP (padL (ad6.drop 16 ++ [128])) [216, 7, 241, 137, 186, 7, 129, 204, 159, 244, 161, 90, 104, 7, 237, 255]) = [32, 56, 160, 117, 174, 167, 218, 105, 9, 231, 46, 150, 211, 238, 170, 61] by decide +kernel, enc6b]
theorem enc6t_s0 : toL (encF (keyF (rkK key6a)) (ofB16 ([38, 192, 240, 80, 101, 233, 50, 178, 76, 161, 146, 168, 116, 54, 142, 165] : List UInt8)) 0) = [217, 62, 13, 172, 158, 19, 203, 74, 187, 87, 103, 92, 135, 196, 127, 85] := by rw [← addL_enc _ _ rfl, kb_toL (key := key6a) rfl (by decide), key6a_k0]; decide +kernel
theorem enc6t_s1 : toL (encF (keyF (rkK key6a)) (ofB16 ([38, 192, 240, 80, 101, 233, 50, 178, 76, 161, 146, 168, 116, 54, 142, 165] : List UInt8)) 1) = [227, 248, 55, 181, 52, 228, 207, 164, 145, 53, 95, 164, 62, 162, 201, 13] := by rw [← rnd_enc (n := 0) _ _ (by decide), enc6t_s0, kb_toL (key := key6a) (r := 1) rfl (by decide), key6a_k1]; decide +kernel
theorem enc6t_s2 : toL (encF (keyF (rkK key6a)) (ofB16 ([38, 192, 240, 80, 101, 233, 50, 178, 76, 161, 146, 168, 116, 54, 142, 165] : List UInt8)) 2) = [198, 101, 57, 21, 82, 24, 101, 238, 52, 196, 28, 107, 71, 144, 248, 88] := by rw [← rnd_enc (n := 1) _ _ (by decide), enc6t_s1, kb_toL (key := key6a) (r := 2) rfl (by decide), key6a_k2]; decide +kernel
theorem enc6t_s3 : toL (encF (keyF (rkK key6a)) (ofB16 ([38, 192, 240, 80, 101, 233, 50, 178, 76, 161, 146, 168, 116, 54, 142, 165] : List UInt8)) 3) = [122, 133, 105, 16, 228, 153, 182, 225, 194, 48, 180, 197, 238, 8, 185, 6] := by rw [← rnd_enc (n := 2) _ _ (by decide), enc6t_s2, kb_toL (key := key6a) (r := 3) rfl (by decide), key6a_k3]; decide +kernel
theorem enc6t_s4 : toL (encF (keyF (rkK key6a)) (ofB16 ([38, 192, 240, 80, 101, 233, 50, 178, 76, 161, 146, 168, 116, 54, 142, 165] : List UInt8)) 4) = [199, 223, 18, 169, 57, 75, 209, 9, 8, 65, 42, 237, 89, 31, 88, 85] := by rw [← rnd_enc (n := 3) _ _ (by decide), enc6t_s3, kb_toL (key := key6a) (r := 4) rfl (by decide), key6a_k4]; decide +kernel
theorem enc6t_s5 : toL (encF (keyF (rkK key6a)) (ofB16 ([38, 192, 240, 80, 101, 233, 50, 178, 76, 161, 146, 168, 116, 54, 142, 165] : List UInt8)) 5) = [203, 44, 39, 159, 243, 39, 226, 118, 16, 67, 118, 239, 255, 36, 80, 91] := by rw [← rnd_enc (n := 4) _ _ (by decide), enc6t_s4, kb_toL (key := key6a) (r := 5) rfl (by decide), key6a_k5]; decide +kernel
theorem enc6t_s6 : toL (encF (keyF (rkK key6a)) (ofB16 ([38, 192, 240, 80, 101, 233, 50, 178, 76, 161, 146, 168, 116, 54, 142, 165] : List UInt8)) 6) = [69, 246, 132, 60, 121, 73, 98, 124, 7, 38, 158, 244, 126, 176, 25, 90] := by rw [← rnd_enc (n := 5) _ _ (by decide), enc6t_s5, kb_toL (key := key6a) (r := 6) rfl (by decide), key6a_k6]; decide +kernel
theorem enc6t_s7 : toL (encF (keyF (rkK key6a)) (ofB16 ([38, 192, 240, 80, 101, 233, 50, 178, 76, 161, 146, 168, 116, 54, 142, 165] : List UInt8)) 7) = [101, 181, 135, 58, 206, 159, 108, 127, 78, 70, 189, 167, 10, 162, 26, 196] := by rw [← rnd_enc (n := 6) _ _ (by decide), enc6t_s6, kb_toL (key := key6a) (r := 7) rfl (by decide), key6a_k7]; decide +kernel
theorem enc6t_s8 : toL (encF (keyF (rkK key6a)) (ofB16 ([38, 192, 240, 80, 101, 233, 50, 178, 76, 161, 146, 168, 116, 54, 142, 165] : List UInt8)) 8) = [56, 206, 251, 167, 247, 174, 16, 220, 65, 251, 66, 49, 22, 190, 220, 1] := by rw [← rnd_enc (n := 7) _ _ (by decide), enc6t_s7, kb_toL (key := key6a) (r := 8) rfl (by decide), key6a_k8]; decide +kernel
theorem enc6t_s9 : toL (encF (keyF (rkK key6a)) (ofB16 ([38, 192, 240, 80, 101, 233, 50, 178, 76, 161, 146, 168, 116, 54, 142, 165] : List UInt8)) 9) = [220, 133, 168, 55, 152, 14, 6, 62, 106, 173, 36, 77, 162, 242, 189, 237] := by rw [← rnd_enc (n := 8) _ _ (by decide), enc6t_s8, kb_toL (key := key6a) (r := 9) rfl (by decide), key6a_k9]; decide +kernel
theorem enc6t : encK (rkK key6a) ([38, 192, 240, 80, 101, 233, 50, 178, 76, 161, 146, 168, 116, 54, 142, 165] : List UInt8) = [133, 99, 45, 7, 198, 232, 243, 127, 149, 10, 205, 50, 10, 46, 204, 147] := by rw [← last_enc, enc6t_s9, kb_toL (key := key6a) (r := 10) rfl (by decide), key6a_k10]; decide +kernel
theorem mac6t : macM (rkK key6a) [202, 195, 8, 148, 184, 234, 242, 84, 3, 91, 194, 5, 64, 53, 120, 25] = [133, 99, 45, 7, 198, 232, 243, 127, 149, 10, 205, 50, 10, 46, 204, 147] := by
  have h : macM (rkK key6a) [202, 195, 8, 148, 184, 234, 242, 84, 3, 91, 194, 5, 64, 53, 120, 25] = encK (rkK key6a) (xorP zero16 (xorP [202, 195, 8, 148, 184, 234, 242, 84, 3, 91, 194, 5, 64, 53, 120, 25] (sub1 (rkK key6a)))) := rfl
  rw [h, sub1_6, show xorP zero16 (xorP [202, 195, 8, 148, 184, 234, 242, 84, 3, 91, 194, 5, 64, 53, 120, 25] [236, 3, 248, 196, 221, 3, 192, 230, 79, 250, 80, 173, 52, 3, 246, 188]) = [38, 192, 240, 80, 101, 233, 50, 178, 76, 161, 146, 168, 116, 54, 142, 165] by decide +kernel, enc6t]
theorem tag6 : tagM key6 [ad6] in6 = [133, 99, 45, 7, 198, 232, 243, 127, 149, 10, 205, 50, 10, 46, 204, 147] := by
  have h : tagM key6 [ad6] in6 = macM (rkK key6a) (xorP (dblL (xorP (dblL (macM (rkK key6a) zero16)) (macM (rkK key6a) ad6))) (padL (in6 ++ [128]))) := rfl
  rw [h, mac6z, mac6a, show xorP (dblL (xorP (dblL [14, 4, 223, 175, 193, 239, 191, 4, 1, 64, 88, 40, 89, 191, 7, 58]) [241, 249, 34, 183, 245, 25, 60, 230, 79, 248, 12, 180, 125, 147, 242, 59])) (padL (in6 ++ [128])) = [202, 195, 8, 148, 184, 234, 242, 84, 3, 91, 194, 5, 64, 53, 120, 25] by decide +kernel, mac6t]
theorem enc6s_s0 : toL (encF (keyF (rkK key6b)) (ofB16 ([133, 99, 45, 7, 198, 232, 243, 127, 21, 10, 205, 50, 10, 46, 204, 147] : List UInt8)) 0) = [117, 146, 223, 244, 50, 29, 5, 136, 237, 243, 55, 201, 246, 211, 50, 108] := by rw [← addL_enc _ _ rfl, kb_toL (key := key6b) rfl (by decide), key6b_k0]; decide +kernel
theorem enc6s_s1 : toL (encF (keyF (rkK key6b)) (ofB16 ([133, 99, 45, 7, 198, 232, 243, 127, 21, 10, 205, 50, 10, 46, 204, 147] : List UInt8)) 1) = [185, 97, 2, 97, 156, 92, 160, 154, 243, 162, 171, 219, 182, 7, 177, 243] := by rw [← rnd_enc (n := 0) _ _ (by decide), enc6s_s0, kb_toL (key := key6b) (r := 1) rfl (by decide), key6b_k1]; decide +kernel
theorem enc6s_s2 : toL (encF (keyF (rkK key6b)) (ofB16 ([133, 99, 45, 7, 198, 232, 243, 127, 21, 10, 205, 50, 10, 46, 204, 147] : List UInt8)) 2) = [80, 100, 204, 119, 210, 180, 84, 69, 52, 73, 12, 138, 15, 70, 69, 64] := by rw [← rnd_enc (n := 1) _ _ (by decide), enc6s_s1, kb_toL (key := key6b) (r := 2) rfl (by decide), key6b_k2]; decide +kernel
theorem enc6s_s3 : toL (encF (keyF (rkK key6b)) (ofB16 ([133, 99, 45, 7, 198, 232, 243, 127, 21, 10, 205, 50, 10, 46, 204, 147] : List UInt8)) 3) = [16, 144, 158, 202, 118, 228, 251, 53, 159, 139, 50, 244, 243, 53, 76, 224] := by rw [← rnd_enc (n := 2) _ _ (by decide), enc6s_s2, kb_toL (key := key6b) (r := 3) rfl (by decide), key6b_k3]; decide +kernel
theorem enc6s_s4 : toL (encF (keyF (rkK key6b)) (ofB16 ([133, 99, 45, 7, 198, 232, 243, 127, 21, 10, 205, 50, 10, 46, 204, 147] : List UInt8)) 4) = [138, 164, 184, 215, 199, 21, 3, 224, 88, 171, 102, 153, 71, 116, 142, 189] := by rw [← rnd_enc (n := 3) _ _ (by decide), enc6s_s3, kb_toL (key := key6b) (r := 4) rfl (by decide), key6b_k4]; decide +kernel
theorem enc6s_s5 : toL (encF (keyF (rkK key6b)) (ofB16 ([133, 99, 45, 7, 198, 232, 243, 127, 21, 10, 205, 50, 10, 46, 204, 147] : List UInt8)) 5) = [194, 23, 74, 254, 23, 139, 201, 128, 12, 96, 201, 106, 160, 38, 192, 93] := by rw [← rnd_enc (n := 4) _ _ (by decide), enc6s_s4, kb_toL (key := key6b) (r := 5) rfl (by decide), key6b_k5]; decide +kernel
theorem enc6s_s6 : toL (encF (keyF (rkK key6b)) (ofB16 ([133, 99, 45, 7, 198, 232, 243, 127, 21, 10, 205, 50, 10, 46, 204, 147] : List UInt8)) 6) = [213, 217, 5, 32, 233, 63, 188, 141, 126, 221, 6, 203, 58, 104, 181, 51] := by rw [← rnd_enc (n := 5) _ _ (by decide), enc6s_s5, kb_toL (key := key6b) (r := 6) rfl (by decide), key6b_k6]; decide +kernel
theorem enc6s_s7 : toL (encF (keyF (rkK key6b)) (ofB16 ([133, 99, 45, 7, 198, 232, 243, 127, 21, 10, 205, 50, 10, 46, 204, 147] : List UInt8)) 7) = [235, 90, 99, 35, 160, 143, 28, 99, 34, 56, 195, 200, 45, 246, 24, 134] := by rw [← rnd_enc (n := 6) _ _ (by decide), enc6s_s6, kb_toL (key := key6b) (r := 7) rfl (by decide), key6b_k7]; decide +kernel
theorem enc6s_s8 : toL (encF (keyF (rkK key6b)) (ofB16 ([133, 99, 45, 7, 198, 232, 243, 127, 21, 10, 205, 50, 10, 46, 204, 147] : List UInt8)) 8) = [249, 162, 16, 41, 48, 100, 102, 33, 180, 27, 196, 84, 90, 165, 206, 71] := by rw [← rnd_enc (n := 7) _ _ (by decide), enc6s_s7, kb_toL (key := key6b) (r := 8) rfl (by decide), key6b_k8]; decide +kernel
theorem enc6s_s9 : toL (encF (keyF (rkK key6b)) (ofB16 ([133, 99, 45, 7, 198, 232, 243, 127, 21, 10, 205, 50, 10, 46, 204, 147] : List UInt8)) 9) = [103, 194, 194, 34, 146, 123, 35, 19, 45, 193, 135, 101, 119, 10, 181, 137] := by rw [← rnd_enc (n := 8) _ _ (by decide), enc6s_s8, kb_toL (key := key6b) (r := 9) rfl (by decide), key6b_k9]; decide +kernel
theorem enc6s : encK (rkK key6b) ([133, 99, 45, 7, 198, 232, 243, 127, 21, 10, 205, 50, 10, 46, 204, 147] : List UInt8) = [81, 226, 24, 210, 197, 162, 171, 140, 67, 69, 196, 166, 35, 178, 240, 143] := by rw [← last_enc, enc6s_s9, kb_toL (key := key6b) (r := 10) rfl (by decide), key6b_k10]; decide +kernel
theorem str6 : strS key6 [133, 99, 45, 7, 198, 232, 243, 127, 149, 10, 205, 50, 10, 46, 204, 147] in6 = [64, 192, 43, 150, 144, 196, 220, 4, 218, 239, 127, 106, 254, 92] := by
  have h : strS key6 [133, 99, 45, 7, 198, 232, 243, 127, 149, 10, 205, 50, 10, 46, 204, 147] in6 = xorL in6 ([] ++ encK (rkK key6b) (ctrT [133, 99, 45, 7, 198, 232, 243, 127, 149, 10, 205, 50, 10, 46, 204, 147])) := rfl
  rw [h, show ctrT [133, 99, 45, 7, 198, 232, 243, 127, 149, 10, 205, 50, 10, 46, 204, 147] = [133, 99, 45, 7, 198, 232, 243, 127, 21, 10, 205, 50, 10, 46, 204, 147] by decide +kernel, enc6s]; decide +kernel
theorem aeE6 : aeE key6 [ad6] (in6.length : Int) = 0 := by decide +kernel
theorem seal6 : sealV key6 [ad6] in6 = [133, 99, 45, 7, 198, 232, 243, 127, 149, 10, 205, 50, 10, 46, 204, 147, 64, 192, 43, 150, 144, 196, 220, 4, 218, 239, 127, 106, 254, 92] := by
  have h : sealV key6 [ad6] in6 = tagM key6 [ad6] in6 ++ strS key6 (tagM key6 [ad6] in6) in6 := if_pos aeE6
  rw [h, tag6, str6]; rfl
theorem unh6k : unhL (ByteArray.data ⟨#[102, 102, 102, 101, 102, 100, 102, 99, 102, 98, 102, 97, 102, 57, 102, 56, 102, 55, 102, 54, 102, 53, 102, 52, 102, 51, 102, 50, 102, 49, 102, 48, 102, 48, 102, 49, 102, 50, 102, 51, 102, 52, 102, 53, 102, 54, 102, 55, 102, 56, 102, 57, 102, 97, 102, 98, 102, 99, 102, 100, 102, 101, 102, 102]⟩).toList = key6 := by decide +kernel
theorem uno6k : unhO (ByteArray.data ⟨#[102, 102, 102, 101, 102, 100, 102, 99, 102, 98, 102, 97, 102, 57, 102, 56, 102, 55, 102, 54, 102, 53, 102, 52, 102, 51, 102, 50, 102, 49, 102, 48, 102, 48, 102, 49, 102, 50, 102, 51, 102, 52, 102, 53, 102, 54, 102, 55, 102, 56, 102, 57, 102, 97, 102, 98, 102, 99, 102, 100, 102, 101, 102, 102]⟩).toList = true := by decide +kernel
theorem unh6a : unhL (ByteArray.data ⟨#[49, 48, 49, 49, 49, 50, 49, 51, 49, 52, 49, 53, 49, 54, 49, 55, 49, 56, 49, 57, 49, 97, 49, 98, 49, 99, 49, 100, 49, 101, 49, 102, 50, 48, 50, 49, 50, 50, 50, 51, 50, 52, 50, 53, 50, 54, 50, 55]⟩).toList = ad6 := by decide +kernel
theorem uno6a : unhO (ByteArray.data ⟨#[49, 48, 49, 49, 49, 50, 49, 51, 49, 52, 49, 53, 49, 54, 49, 55, 49, 56, 49, 57, 49, 97, 49, 98, 49, 99, 49, 100, 49, 101, 49, 102, 50, 48, 50, 49, 50, 50, 50, 51, 50, 52, 50, 53, 50, 54, 50, 55]⟩).toList = true := by decide +kernel
theorem unh6i : unhL (ByteArray.data ⟨#[49, 49, 50, 50, 51, 51, 52, 52, 53, 53, 54, 54, 55, 55, 56, 56, 57, 57, 97, 97, 98, 98, 99, 99, 100, 100, 101, 101]⟩).toList = in6 := by decide +kernel
theorem uno6i : unhO (ByteArray.data ⟨#[49, 49, 50, 50, 51, 51, 52, 52, 53, 53, 54, 54, 55, 55, 56, 56, 57, 57, 97, 97, 98, 98, 99, 99, 100, 100, 101, 101]⟩).toList = true := by decide +kernel
theorem hex6 : hexL (sealV key6 [ad6] in6) = [56, 53, 54, 51, 50, 100, 48, 55, 99, 54, 101, 56, 102, 51, 55, 102, 57, 53, 48, 97, 99, 100, 51, 50, 48, 97, 50, 101, 99, 99, 57, 51, 52, 48, 99, 48, 50, 98, 57, 54, 57, 48, 99, 52, 100, 99, 48, 52, 100, 97, 101, 102, 55, 102, 54, 97, 102, 101, 53, 99] := by rw [seal6]; decide +kernel
end Go.Proofs.Ytipjekggnanffaa
