/- Texts of one's own, merged: from: The laws of layer 6. Own work. -/
import Derived.Test.YtipjekggnanffaaMg8
import Derived.Test.YtipjekggnanffaaMg9
import Derived.Test.YtipjekggnanffaaMg13
set_option linter.unusedVariables false
set_option linter.unusedSimpArgs false
namespace Go.Proofs.Ytipjekggnanffaa
open Go.RowKit

theorem binS_lst (a b : ByteArray) : binS .eql a b = some (.bool (a.data.toList == b.data.toList)) := by
  cases a; cases b
  rename_i x y
  have h := binS_same x.toList y.toList
  simpa using h
theorem unh_arr (l : List UInt8) : (ByteArray.mk l.toArray).data.toList = l := by simp
def sf_known6 : SFn := ⟨0, 36,
  .seq (.reg [⟨(some 0), .mv (.k (.c (.d (.bool false)))), none⟩])
  (.seq (.reg [⟨(some 10), .call 23 [(.k (.c (.d (.str ⟨#[102, 102, 102, 101, 102, 100, 102, 99, 102, 98, 102, 97, 102, 57, 102, 56, 102, 55, 102, 54, 102, 53, 102, 52, 102, 51, 102, 50, 102, 49, 102, 48, 102, 48, 102, 49, 102, 50, 102, 51, 102, 52, 102, 53, 102, 54, 102, 55, 102, 56, 102, 57, 102, 97, 102, 98, 102, 99, 102, 100, 102, 101, 102, 102]⟩))))] none, none⟩,
    ⟨(some 9), .mv (.t 10), none⟩,
    ⟨(some 11), .extract (.t 9) 0, none⟩,
    ⟨(some 12), .extract (.t 9) 1, none⟩,
    ⟨(some 1), .mv (.t 11), none⟩,
    ⟨(some 2), .mv (.t 12), none⟩])
  (.seq (.reg [⟨(some 14), .call 23 [(.k (.c (.d (.str ⟨#[49, 48, 49, 49, 49, 50, 49, 51, 49, 52, 49, 53, 49, 54, 49, 55, 49, 56, 49, 57, 49, 97, 49, 98, 49, 99, 49, 100, 49, 101, 49, 102, 50, 48, 50, 49, 50, 50, 50, 51, 50, 52, 50, 53, 50, 54, 50, 55]⟩))))] none, none⟩,
    ⟨(some 13), .mv (.t 14), none⟩,
    ⟨(some 15), .extract (.t 13) 0, none⟩,
    ⟨(some 16), .extract (.t 13) 1, none⟩,
    ⟨(some 3), .mv (.t 15), none⟩,
    ⟨(some 4), .mv (.t 16), none⟩])
  (.seq (.reg [⟨(some 18), .call 23 [(.k (.c (.d (.str ⟨#[49, 49, 50, 50, 51, 51, 52, 52, 53, 53, 54, 54, 55, 55, 56, 56, 57, 57, 97, 97, 98, 98, 99, 99, 100, 100, 101, 101]⟩))))] none, none⟩,
    ⟨(some 17), .mv (.t 18), none⟩,
    ⟨(some 19), .extract (.t 17) 0, none⟩,
    ⟨(some 20), .extract (.t 17) 1, none⟩,
    ⟨(some 5), .mv (.t 19), none⟩,
    ⟨(some 6), .mv (.t 20), none⟩])
  (.seq (.reg [⟨(some 22), .mv (.t 1), none⟩,
    ⟨(some 23), .mv (.t 3), none⟩,
    ⟨(some 24), .bldSl false 1 1 (.sl []) [(0, (.t 23))], none⟩,
    ⟨(some 25), .mv (.t 5), none⟩,
    ⟨(some 26), .call 11 [(.t 22), (.t 24), (.t 25)] none, none⟩,
    ⟨(some 21), .mv (.t 26), none⟩,
    ⟨(some 27), .extract (.t 21) 0, none⟩,
    ⟨(some 28), .extract (.t 21) 1, none⟩,
    ⟨(some 7), .mv (.t 27), none⟩,
    ⟨(some 8), .mv (.t 28), none⟩])
  (.seq (.reg [⟨(some 29), .mv (.t 8), none⟩,
    ⟨(some 30), .bin .eql (.t 29) (.k (.c (.d (.int .i64 0)))), none⟩,
    ⟨(some 31), .mv (.t 30), none⟩,
    ⟨(some 32), .mv (.t 7), (some (31, true))⟩,
    ⟨(some 33), .call 24 [(.t 32)] none, (some (31, true))⟩,
    ⟨(some 34), .bin .eql (.t 33) (.k (.c (.d (.str ⟨#[56, 53, 54, 51, 50, 100, 48, 55, 99, 54, 101, 56, 102, 51, 55, 102, 57, 53, 48, 97, 99, 100, 51, 50, 48, 97, 50, 101, 99, 99, 57, 51, 52, 48, 99, 48, 50, 98, 57, 54, 57, 48, 99, 52, 100, 99, 48, 52, 100, 97, 101, 102, 55, 102, 54, 97, 102, 101, 53, 99]⟩)))), (some (31, true))⟩,
    ⟨(some 35), .pick (.t 31) (.t 34) (.k (.c (.d (.bool false)))), none⟩,
    ⟨(some 0), .mv (.t 35), none⟩])
  (.ret)))))),
  [(0, none)]⟩
theorem cf_known6 : compFn Try.prog { own := [], comp := [], frz := [], nils := [] } Try.f8 = some sf_known6 := by kernel_rfl
set_option maxHeartbeats 1600000 in
theorem known6_c (G : Glob) : Den Try.prog G 8 [] (.w (.c (.d (.bool true)))) := by
  refine den_walk Try.func8 cf_known6 rfl rfl ?_
  have l1 : (sealV key6 [ad6] in6).length ≤ 1099511627776 := by rw [seal6]; decide
  have hs := seal_c G key6 [ad6] in6 (by decide) (by decide) (by simp [ad6]) (by decide)
  rw [aeE6] at hs
  simp only [sf_known6, putAll, wx, wy, wz, stV, seval, IntWalk.iteOmega, IntWalk.toNatUp, reduceCtorEq]
  refine st_call (unhex_c G ⟨#[102, 102, 102, 101, 102, 100, 102, 99, 102, 98, 102, 97, 102, 57, 102, 56, 102, 55, 102, 54, 102, 53, 102, 52, 102, 51, 102, 50, 102, 49, 102, 48, 102, 48, 102, 49, 102, 50, 102, 51, 102, 52, 102, 53, 102, 54, 102, 55, 102, 56, 102, 57, 102, 97, 102, 98, 102, 99, 102, 100, 102, 101, 102, 102]⟩ (by decide)) rfl (.inl rfl) ?_
  simp only [unh6k, uno6k, wx, wy, wz, stV, seval, IntWalk.iteOmega, IntWalk.toNatUp, reduceCtorEq]
  refine st_call (unhex_c G ⟨#[49, 48, 49, 49, 49, 50, 49, 51, 49, 52, 49, 53, 49, 54, 49, 55, 49, 56, 49, 57, 49, 97, 49, 98, 49, 99, 49, 100, 49, 101, 49, 102, 50, 48, 50, 49, 50, 50, 50, 51, 50, 52, 50, 53, 50, 54, 50, 55]⟩ (by decide)) rfl (.inl rfl) ?_
  simp only [unh6a, uno6a, wx, wy, wz, stV, seval, IntWalk.iteOmega, IntWalk.toNatUp, reduceCtorEq]
  refine st_call (unhex_c G ⟨#[49, 49, 50, 50, 51, 51, 52, 52, 53, 53, 54, 54, 55, 55, 56, 56, 57, 57, 97, 97, 98, 98, 99, 99, 100, 100, 101, 101]⟩ (by decide)) rfl (.inl rfl) ?_
  simp only [unh6i, uno6i, wx, wy, wz, stV, seval, IntWalk.iteOmega, IntWalk.toNatUp, reduceCtorEq]
  refine st_call (hs) rfl (.inl rfl) ?_
  simp only [wx, wy, wz, stV, seval, IntWalk.iteOmega, IntWalk.toNatUp, reduceCtorEq]
  refine st_call (hex_c G (sealV key6 [ad6] in6) l1) rfl (.inl rfl) ?_
  simp only [binS_lst, hex6, beq_self_eq_true, wx, wy, wz, stV, seval, IntWalk.iteOmega, IntWalk.toNatUp, reduceCtorEq]
  exact ret_d1 (by simp only [wx, wy, wz, stV, seval, IntWalk.iteOmega, IntWalk.toNatUp, reduceCtorEq])
def lightB (key : List UInt8) (ad : List (List UInt8)) (b : List UInt8) : Bool := decide (key.length ≤ 60) && decide (ad.length ≤ 20) && decide (b.length ≤ 100) && ad.all fun x => decide (x.length ≤ 60)
theorem lightB_ok {key b : List UInt8} {ad : List (List UInt8)} (h : lightB key ad b = true) : key.length ≤ 60 ∧ ad.length ≤ 20 ∧ b.length ≤ 100 ∧ ∀ x ∈ ad, x.length ≤ 60 := by
  unfold lightB at h
  simp only [Bool.and_eq_true, decide_eq_true_eq, List.all_eq_true] at h
  exact ⟨h.1.1.1, h.1.1.2, h.1.2, h.2⟩
theorem lightB_1 {key b : List UInt8} {ad : List (List UInt8)} (h : 60 < key.length ∨ 20 < ad.length ∨ 100 < b.length ∨ ∃ x ∈ ad, 60 < x.length) : lightB key ad b = false := by
  cases hl : lightB key ad b
  · rfl
  · obtain ⟨h1, h2, h3, h4⟩ := lightB_ok hl
    rcases h with h | h | h | ⟨x, hx, h⟩
    · omega
    · omega
    · omega
    · have := h4 x hx; omega
def litSt (ad : List (List UInt8)) (i : Nat) : St := ⟨ofL [(1, .w (.c (.d (sls ad)))), (7, .w (.c (.d (.int .i64 (i : Int)))))], hL [], uL []⟩
def lp_lit_0 : SCode :=
  .seq (.seq (.reg [⟨(some 21), .mv (.t 7), none⟩,
    ⟨(some 22), .mv (.t 1), none⟩,
    ⟨(some 23), .len (.t 22), none⟩,
    ⟨(some 24), .bin .lss (.t 21) (.t 23), none⟩])
  (.cond (.t 24) (.skip)
   (.exit 0)))
  (.seq (.block 1 (.seq (.reg [⟨(some 27), .mv (.t 1), none⟩,
     ⟨(some 28), .mv (.t 7), none⟩,
     ⟨(some 29), .idxSl 1 (.t 27) (.t 28), none⟩,
     ⟨(some 30), .load .sc (.t 29), none⟩,
     ⟨(some 31), .len (.t 30), none⟩,
     ⟨(some 32), .bin .gtr (.t 31) (.k (.c (.d (.int .i64 60)))), none⟩])
   (.cond (.t 32) (.seq (.reg [⟨(some 6), .mv (.k (.c (.d (.bool false)))), none⟩])
    (.ret))
    (.skip))))
  (.reg [⟨(some 25), .mv (.t 7), none⟩,
    ⟨(some 26), .bin .add (.t 25) (.k (.c (.d (.int .i64 1)))), none⟩,
    ⟨(some 7), .mv (.t 26), none⟩]))
def sf_lit : SFn := ⟨3, 33,
  .seq (.reg [⟨(some 6), .mv (.k (.c (.d (.bool false)))), none⟩])
  (.seq (.seq (.reg [⟨(some 8), .mv (.t 0), none⟩,
    ⟨(some 9), .len (.t 8), none⟩,
    ⟨(some 10), .bin .gtr (.t 9) (.k (.c (.d (.int .i64 60)))), none⟩,
    ⟨(some 11), .mv (.t 10), none⟩,
    ⟨(some 12), .mv (.t 1), (some (11, false))⟩,
    ⟨(some 13), .len (.t 12), (some (11, false))⟩,
    ⟨(some 14), .bin .gtr (.t 13) (.k (.c (.d (.int .i64 20)))), (some (11, false))⟩,
    ⟨(some 15), .pick (.t 11) (.k (.c (.d (.bool true)))) (.t 14), none⟩,
    ⟨(some 16), .mv (.t 15), none⟩,
    ⟨(some 17), .mv (.t 2), (some (16, false))⟩,
    ⟨(some 18), .len (.t 17), (some (16, false))⟩,
    ⟨(some 19), .bin .gtr (.t 18) (.k (.c (.d (.int .i64 100)))), (some (16, false))⟩,
    ⟨(some 20), .pick (.t 16) (.k (.c (.d (.bool true)))) (.t 19), none⟩])
  (.cond (.t 20) (.seq (.reg [⟨(some 6), .mv (.k (.c (.d (.bool false)))), none⟩])
   (.ret))
   (.skip)))
  (.seq (.seq (.reg [⟨(some 7), .mv (.k (.c (.d (.int .i64 0)))), none⟩])
  (.block 0 (.loop lp_lit_0)))
  (.seq (.reg [⟨(some 6), .mv (.k (.c (.d (.bool true)))), none⟩])
  (.ret)))),
  [(6, none)]⟩
theorem cf_lit : compFn Try.prog { own := [], comp := [], frz := [], nils := [] } Try.f7 = some sf_lit := by kernel_rfl
set_option maxHeartbeats 1600000 in
theorem lit_c (G : Glob) (key b : List UInt8) (ad : List (List UInt8)) (hk : key.length ≤ 9223372036854775807) (hl : ad.length ≤ 9223372036854775807) (hx : ∀ x ∈ ad, x.length ≤ 9223372036854775807) (hb : b.length ≤ 9223372036854775807) : Den Try.prog G 7 [.sl (key.map bD), sls ad, .sl (b.map bD)] (.w (.c (.d (.bool (lightB key ad b))))) := by
  refine den_walk Try.func7 cf_lit rfl rfl ?_
  by_cases h1 : 60 < key.length
  · rw [lightB_1 (.inl h1)]
    simp only [sf_lit, putAll, wx, wy, wz, stV, seval, IntWalk.iteOmega, IntWalk.toNatUp, reduceCtorEq]
    exact ret_d1 (by simp only [wx, wy, wz, stV, seval, IntWalk.iteOmega, IntWalk.toNatUp, reduceCtorEq])
  · by_cases h2 : 20 < ad.length
    · rw [lightB_1 (.inr (.inl h2))]
      simp only [sf_lit, putAll, wx, wy, wz, stV, seval, IntWalk.iteOmega, IntWalk.toNatUp, reduceCtorEq]
      exact ret_d1 (by simp only [wx, wy, wz, stV, seval, IntWalk.iteOmega, IntWalk.toNatUp, reduceCtorEq])
    · by_cases h3 : 100 < b.length
      · rw [lightB_1 (.inr (.inr (.inl h3)))]
        simp only [sf_lit, putAll, wx, wy, wz, stV, seval, IntWalk.iteOmega, IntWalk.toNatUp, reduceCtorEq]
        exact ret_d1 (by simp only [wx, wy, wz, stV, seval, IntWalk.iteOmega, IntWalk.toNatUp, reduceCtorEq])
      · simp only [sf_lit, putAll, wx, wy, wz, stV, seval, IntWalk.iteOmega, IntWalk.toNatUp, reduceCtorEq]
        refine loop_st (litSt ad) (fun i => ad.length - i) (fun i => i ≤ ad.length ∧ ∀ j, j < i → (ad.getD j []).length ≤ 60) 0 ⟨Nat.zero_le _, fun j hj => by omega⟩ ?_ ?_
        · refine ent_l (fun i => 0) ?_ ?_ rfl rfl <;> simp only [wx, wex, wez, stV, seval, IntWalk.iteOmega, IntWalk.toNatUp, reduceCtorEq] <;> rfl
        · rintro i ⟨hi, hok⟩
          by_cases hlt : i < ad.length
          · have g1 := getLs hlt
            have hxx := hx _ (getLs_mem hlt)
            by_cases hlong : 60 < (ad.getD i []).length
            · rw [lightB_1 (.inr (.inr (.inr ⟨_, getLs_mem hlt, hlong⟩)))]
              simp only [lp_lit_0, litSt, wx, wy, wz, stV, seval, IntWalk.iteOmega, IntWalk.toNatUp, reduceCtorEq, get_map, g1]
              exact ret_d1 (by simp only [wx, wy, wz, stV, seval, IntWalk.iteOmega, IntWalk.toNatUp, reduceCtorEq])
            · simp only [lp_lit_0, litSt, wx, wy, wz, stV, seval, IntWalk.iteOmega, IntWalk.toNatUp, reduceCtorEq, get_map, g1]
              refine lop_next (i + 1) (by omega) ⟨by omega, fun j hj => ?_⟩ (ent_l (fun i => i) ?_ ?_ rfl rfl)
              · rcases Nat.lt_or_ge j i with h | h
                · exact hok j h
                · obtain rfl : j = i := by omega
                  omega
              all_goals simp only [wx, wex, wez, stV, seval, IntWalk.iteOmega, IntWalk.toNatUp, reduceCtorEq]
          · have : lightB key ad b = true := by
              unfold lightB
              simp only [Bool.and_eq_true, decide_eq_true_eq, List.all_eq_true]
              refine ⟨⟨⟨by omega, by omega⟩, by omega⟩, fun x hx => ?_⟩
              obtain ⟨j, hj, rfl⟩ := List.getElem_of_mem hx
              have := hok j (by omega)
              rw [List.getD_eq_getElem?_getD, List.getElem?_eq_getElem hj] at this
              exact this
            rw [this]
            simp only [lp_lit_0, litSt, wx, wy, wz, stV, seval, IntWalk.iteOmega, IntWalk.toNatUp, reduceCtorEq]
            exact ret_d1 (by simp only [wx, wy, wz, stV, seval, IntWalk.iteOmega, IntWalk.toNatUp, reduceCtorEq])
def sf_aacts : SFn := ⟨3, 98,
  .seq (.reg [⟨(some 6), .mv (.k (.c (.d (.bool false)))), none⟩])
  (.seq (.seq (.reg [⟨(some 19), .mv (.t 0), none⟩,
    ⟨(some 20), .mv (.t 1), none⟩,
    ⟨(some 21), .mv (.t 2), none⟩,
    ⟨(some 22), .call 7 [(.t 19), (.t 20), (.t 21)] none, none⟩,
    ⟨(some 23), .un .not (.t 22), none⟩])
  (.cond (.t 23) (.seq (.reg [⟨(some 24), .call 8 [] none, none⟩,
     ⟨(some 6), .mv (.t 24), none⟩])
   (.ret))
   (.skip)))
  (.seq (.reg [⟨(some 26), .mv (.t 0), none⟩,
    ⟨(some 27), .mv (.t 1), none⟩,
    ⟨(some 28), .mv (.t 2), none⟩,
    ⟨(some 29), .call 9 [(.t 26), (.t 27), (.t 28)] none, none⟩,
    ⟨(some 25), .mv (.t 29), none⟩,
    ⟨(some 30), .extract (.t 25) 0, none⟩,
    ⟨(some 31), .extract (.t 25) 1, none⟩,
    ⟨(some 7), .mv (.t 30), none⟩,
    ⟨(some 8), .mv (.t 31), none⟩])
  (.seq (.reg [⟨(some 33), .mv (.t 0), none⟩,
    ⟨(some 34), .mv (.t 1), none⟩,
    ⟨(some 35), .mv (.t 2), none⟩,
    ⟨(some 36), .call 10 [(.t 33), (.t 34), (.t 35)] none, none⟩,
    ⟨(some 32), .mv (.t 36), none⟩,
    ⟨(some 37), .extract (.t 32) 0, none⟩,
    ⟨(some 38), .extract (.t 32) 1, none⟩,
    ⟨(some 9), .mv (.t 37), none⟩,
    ⟨(some 10), .mv (.t 38), none⟩])
  (.seq (.reg [⟨(some 40), .mv (.t 0), none⟩,
    ⟨(some 41), .mv (.t 1), none⟩,
    ⟨(some 42), .mv (.t 2), none⟩,
    ⟨(some 43), .call 11 [(.t 40), (.t 41), (.t 42)] none, none⟩,
    ⟨(some 39), .mv (.t 43), none⟩,
    ⟨(some 44), .extract (.t 39) 0, none⟩,
    ⟨(some 45), .extract (.t 39) 1, none⟩,
    ⟨(some 11), .mv (.t 44), none⟩,
    ⟨(some 12), .mv (.t 45), none⟩])
  (.seq (.reg [⟨(some 47), .mv (.t 0), none⟩,
    ⟨(some 48), .mv (.t 1), none⟩,
    ⟨(some 49), .mv (.t 2), none⟩,
    ⟨(some 50), .call 12 [(.t 47), (.t 48), (.t 49)] none, none⟩,
    ⟨(some 46), .mv (.t 50), none⟩,
    ⟨(some 51), .extract (.t 46) 0, none⟩,
    ⟨(some 52), .extract (.t 46) 1, none⟩,
    ⟨(some 13), .mv (.t 51), none⟩,
    ⟨(some 14), .mv (.t 52), none⟩])
  (.seq (.reg [⟨(some 54), .mv (.t 0), none⟩,
    ⟨(some 55), .mv (.t 1), none⟩,
    ⟨(some 56), .mv (.t 2), none⟩,
    ⟨(some 57), .call 13 [(.t 54), (.t 55), (.t 56)] none, none⟩,
    ⟨(some 53), .mv (.t 57), none⟩,
    ⟨(some 58), .extract (.t 53) 0, none⟩,
    ⟨(some 59), .extract (.t 53) 1, none⟩,
    ⟨(some 15), .mv (.t 58), none⟩,
    ⟨(some 16), .mv (.t 59), none⟩])
  (.seq (.reg [⟨(some 61), .mv (.t 0), none⟩,
    ⟨(some 62), .mv (.t 1), none⟩,
    ⟨(some 63), .mv (.t 2), none⟩,
    ⟨(some 64), .call 14 [(.t 61), (.t 62), (.t 63)] none, none⟩,
    ⟨(some 60), .mv (.t 64), none⟩,
    ⟨(some 65), .extract (.t 60) 0, none⟩,
    ⟨(some 66), .extract (.t 60) 1, none⟩,
    ⟨(some 17), .mv (.t 65), none⟩,
    ⟨(some 18), .mv (.t 66), none⟩])
  (.seq (.reg [⟨(some 67), .call 8 [] none, none⟩,
    ⟨(some 68), .mv (.t 67), none⟩,
    ⟨(some 69), .mv (.t 8), (some (68, true))⟩,
    ⟨(some 70), .mv (.t 10), (some (68, true))⟩,
    ⟨(some 71), .bin .eql (.t 69) (.t 70), (some (68, true))⟩,
    ⟨(some 72), .pick (.t 68) (.t 71) (.k (.c (.d (.bool false)))), none⟩,
    ⟨(some 73), .mv (.t 72), none⟩,
    ⟨(some 74), .mv (.t 7), (some (73, true))⟩,
    ⟨(some 75), .mv (.t 9), (some (73, true))⟩,
    ⟨(some 76), .call 15 [(.t 74), (.t 75)] none, (some (73, true))⟩,
    ⟨(some 77), .pick (.t 73) (.t 76) (.k (.c (.d (.bool false)))), none⟩,
    ⟨(some 78), .mv (.t 77), none⟩,
    ⟨(some 79), .mv (.t 12), (some (78, true))⟩,
    ⟨(some 80), .mv (.t 14), (some (78, true))⟩,
    ⟨(some 81), .bin .eql (.t 79) (.t 80), (some (78, true))⟩,
    ⟨(some 82), .pick (.t 78) (.t 81) (.k (.c (.d (.bool false)))), none⟩,
    ⟨(some 83), .mv (.t 82), none⟩,
    ⟨(some 84), .mv (.t 11), (some (83, true))⟩,
    ⟨(some 85), .mv (.t 13), (some (83, true))⟩,
    ⟨(some 86), .call 15 [(.t 84), (.t 85)] none, (some (83, true))⟩,
    ⟨(some 87), .pick (.t 83) (.t 86) (.k (.c (.d (.bool false)))), none⟩,
    ⟨(some 88), .mv (.t 87), none⟩,
    ⟨(some 89), .mv (.t 16), (some (88, true))⟩,
    ⟨(some 90), .mv (.t 18), (some (88, true))⟩,
    ⟨(some 91), .bin .eql (.t 89) (.t 90), (some (88, true))⟩,
    ⟨(some 92), .pick (.t 88) (.t 91) (.k (.c (.d (.bool false)))), none⟩,
    ⟨(some 93), .mv (.t 92), none⟩,
    ⟨(some 94), .mv (.t 15), (some (93, true))⟩,
    ⟨(some 95), .mv (.t 17), (some (93, true))⟩,
    ⟨(some 96), .call 15 [(.t 94), (.t 95)] none, (some (93, true))⟩,
    ⟨(some 97), .pick (.t 93) (.t 96) (.k (.c (.d (.bool false)))), none⟩,
    ⟨(some 6), .mv (.t 97), none⟩])
  (.ret))))))))),
  [(6, none)]⟩
theorem cf_aacts : compFn Try.prog { own := [], comp := [], frz := [], nils := [] } Try.f3 = some sf_aacts := by kernel_rfl
set_option maxHeartbeats 1600000 in
theorem aacts_c (G : Glob) (key : List UInt8) (hkey : key.length ≤ maxLen) (ad : List (List UInt8)) (had1 : ad.length ≤ maxLen) (had2 : ∀ x ∈ ad, x.length ≤ maxLen) (b : List UInt8) (hb : b.length ≤ maxLen)  : Den Try.prog G 3 [.sl (key.map bD), .sl (ad.map fun l => D.sl (l.map bD)), .sl (b.map bD)] (.w (.c (.d (.bool true)))) := by
  refine den_walk Try.func3 cf_aacts rfl rfl ?_
  have hm : maxLen ≤ 9223372036854775807 := by decide
  have hx : ∀ x ∈ ad, x.length ≤ 9223372036854775807 := fun x hx => Nat.le_trans (had2 x hx) hm
  have hl := lit_c G key b ad (by omega) (by omega) hx (by omega)
  cases h : lightB key ad b
  · rw [h] at hl
    simp only [sf_aacts, putAll, wx, wy, wz, stV, seval, IntWalk.iteOmega, IntWalk.toNatUp, reduceCtorEq]
    refine st_call (hl) rfl (.inl rfl) ?_
    simp only [wx, wy, wz, stV, seval, IntWalk.iteOmega, IntWalk.toNatUp, reduceCtorEq]
    refine st_call (known6_c G) rfl (.inl rfl) ?_
    simp only [wx, wy, wz, stV, seval, IntWalk.iteOmega, IntWalk.toNatUp, reduceCtorEq]
    exact ret_d1 (by simp only [wx, wy, wz, stV, seval, IntWalk.iteOmega, IntWalk.toNatUp, reduceCtorEq])
  · rw [h] at hl
    simp only [sf_aacts, putAll, wx, wy, wz, stV, seval, IntWalk.iteOmega, IntWalk.toNatUp, reduceCtorEq]
    refine st_call (hl) rfl (.inl rfl) ?_
    simp only [wx, wy, wz, stV, seval, IntWalk.iteOmega, IntWalk.toNatUp, reduceCtorEq]
    refine st_call (tag_c G key ad b (by omega) (by omega) hx (by omega)) rfl (.inl rfl) ?_
    simp only [wx, wy, wz, stV, seval, IntWalk.iteOmega, IntWalk.toNatUp, reduceCtorEq]
    refine st_call (rtag_c G key ad b (by omega) (by omega) hx (by omega)) rfl (.inl rfl) ?_
    simp only [wx, wy, wz, stV, seval, IntWalk.iteOmega, IntWalk.toNatUp, reduceCtorEq]
    refine st_call (seal_c G key ad b (by omega) (by omega) hx (by omega)) rfl (.inl rfl) ?_
    simp only [wx, wy, wz, stV, seval, IntWalk.iteOmega, IntWalk.toNatUp, reduceCtorEq]
    refine st_call (rseal_c G key ad b (by omega) (by omega) hx (by omega)) rfl (.inl rfl) ?_
    simp only [wx, wy, wz, stV, seval, IntWalk.iteOmega, IntWalk.toNatUp, reduceCtorEq]
    refine st_call (opn_c G key ad b (by omega) (by omega) hx (by omega)) rfl (.inl rfl) ?_
    simp only [wx, wy, wz, stV, seval, IntWalk.iteOmega, IntWalk.toNatUp, reduceCtorEq]
    refine st_call (ropn_c G key ad b (by omega) (by omega) hx (by omega)) rfl (.inl rfl) ?_
    simp only [wx, wy, wz, stV, seval, IntWalk.iteOmega, IntWalk.toNatUp, reduceCtorEq]
    refine st_call (known6_c G) rfl (.inl rfl) ?_
    simp only [wx, wy, wz, stV, seval, IntWalk.iteOmega, IntWalk.toNatUp, reduceCtorEq]
    refine st_call (rsame_c G (tagV key ad b) (tagV key ad b)) rfl (.inl rfl) ?_
    simp only [wx, wy, wz, stV, seval, IntWalk.iteOmega, IntWalk.toNatUp, reduceCtorEq]
    refine st_call (rsame_c G (sealV key ad b) (sealV key ad b)) rfl (.inl rfl) ?_
    simp only [wx, wy, wz, stV, seval, IntWalk.iteOmega, IntWalk.toNatUp, reduceCtorEq]
    refine st_call (rsame_c G (opnV key ad b) (opnV key ad b)) rfl (.inl rfl) ?_
    simp only [wx, wy, wz, stV, seval, IntWalk.iteOmega, IntWalk.toNatUp, reduceCtorEq]
    exact ret_d1 (by simp only [wx, wy, wz, stV, seval, IntWalk.iteOmega, IntWalk.toNatUp, reduceCtorEq])
theorem aeE_zero {key : List UInt8} {ad : List (List UInt8)} {n : Int} (h : key.length = 32) (h2 : ad.length ≤ 16) (h3 : ∀ x ∈ ad, x.length ≤ 65519) (h4 : n ≤ 65519) : aeE key ad n = 0 := by
  have : longA ad = false := by
    unfold longA
    rw [List.any_eq_false]
    intro x hx
    have := h3 x hx
    simpa using this
  unfold aeE
  rw [if_neg (by omega), if_neg (by omega), if_neg (by rw [this]; simp; omega)]
theorem strS_twice (key tag b : List UInt8) : strS key tag (strS key tag b) = b := strmC_twice _ _ _
theorem sealV_ok {key b : List UInt8} {ad : List (List UInt8)} (h : aeE key ad b.length = 0) : sealV key ad b = tagM key ad b ++ strS key (tagM key ad b) b := if_pos h
theorem seal_take {key b : List UInt8} {ad : List (List UInt8)} (T : List UInt8) : (tagM key ad b ++ T).take 16 = tagM key ad b := by
  rw [List.take_append_of_le_length (by rw [tagM_len]; exact Nat.le_refl _), List.take_of_length_le (by rw [tagM_len]; exact Nat.le_refl _)]
theorem seal_drop {key b : List UInt8} {ad : List (List UInt8)} (T : List UInt8) : (tagM key ad b ++ T).drop 16 = T := by
  have := List.drop_left (l₁ := tagM key ad b) (l₂ := T)
  rw [tagM_len] at this
  exact this
theorem opn_seal {key b : List UInt8} {ad : List (List UInt8)} (h : aeE key ad b.length = 0) : opnE key ad (tagM key ad b ++ strS key (tagM key ad b) b) = 0 ∧ opnV key ad (tagM key ad b ++ strS key (tagM key ad b) b) = b := by
  have hl : (tagM key ad b ++ strS key (tagM key ad b) b).length = 16 + b.length := by rw [List.length_append, tagM_len, strS_len]
  have he : aeE key ad (((tagM key ad b ++ strS key (tagM key ad b) b).length : Int) - 16) = 0 := by rw [hl, show ((16 + b.length : Nat) : Int) - 16 = (b.length : Int) by omega]; exact h
  obtain ⟨e1, e2⟩ := opn_ok he (by omega) (by rw [seal_take, seal_drop, strS_twice])
  refine ⟨e1, ?_⟩
  rw [e2, seal_take, seal_drop, strS_twice]
def sf_aopens : SFn := ⟨3, 81,
  .seq (.reg [⟨(some 6), .mv (.k (.c (.d (.bool false)))), none⟩])
  (.seq (.reg [⟨(some 14), .mv (.t 0), none⟩,
    ⟨(some 15), .call 17 [(.t 14), (.k (.c (.d (.int .i64 1000))))] none, none⟩,
    ⟨(some 16), .call 16 [(.t 15)] none, none⟩,
    ⟨(some 7), .mv (.t 16), none⟩])
  (.seq (.seq (.reg [⟨(some 17), .mv (.t 7), none⟩,
    ⟨(some 18), .mv (.t 1), none⟩,
    ⟨(some 19), .mv (.t 2), none⟩,
    ⟨(some 20), .call 7 [(.t 17), (.t 18), (.t 19)] none, none⟩,
    ⟨(some 21), .un .not (.t 20), none⟩,
    ⟨(some 22), .mv (.t 21), none⟩,
    ⟨(some 23), .mv (.t 1), (some (22, false))⟩,
    ⟨(some 24), .len (.t 23), (some (22, false))⟩,
    ⟨(some 25), .bin .gtr (.t 24) (.k (.c (.d (.int .i64 16)))), (some (22, false))⟩,
    ⟨(some 26), .pick (.t 22) (.k (.c (.d (.bool true)))) (.t 25), none⟩])
  (.cond (.t 26) (.seq (.reg [⟨(some 27), .call 8 [] none, none⟩,
     ⟨(some 6), .mv (.t 27), none⟩])
   (.ret))
   (.skip)))
  (.seq (.reg [⟨(some 29), .mv (.t 7), none⟩,
    ⟨(some 30), .mv (.t 1), none⟩,
    ⟨(some 31), .mv (.t 2), none⟩,
    ⟨(some 32), .call 11 [(.t 29), (.t 30), (.t 31)] none, none⟩,
    ⟨(some 28), .mv (.t 32), none⟩,
    ⟨(some 33), .extract (.t 28) 0, none⟩,
    ⟨(some 34), .extract (.t 28) 1, none⟩,
    ⟨(some 8), .mv (.t 33), none⟩,
    ⟨(some 9), .mv (.t 34), none⟩])
  (.seq (.reg [⟨(some 36), .mv (.t 7), none⟩,
    ⟨(some 37), .mv (.t 1), none⟩,
    ⟨(some 38), .mv (.t 8), none⟩,
    ⟨(some 39), .call 13 [(.t 36), (.t 37), (.t 38)] none, none⟩,
    ⟨(some 35), .mv (.t 39), none⟩,
    ⟨(some 40), .extract (.t 35) 0, none⟩,
    ⟨(some 41), .extract (.t 35) 1, none⟩,
    ⟨(some 10), .mv (.t 40), none⟩,
    ⟨(some 11), .mv (.t 41), none⟩])
  (.seq (.reg [⟨(some 43), .mv (.t 7), none⟩,
    ⟨(some 44), .mv (.t 1), none⟩,
    ⟨(some 45), .mv (.t 2), none⟩,
    ⟨(some 46), .call 9 [(.t 43), (.t 44), (.t 45)] none, none⟩,
    ⟨(some 42), .mv (.t 46), none⟩,
    ⟨(some 47), .extract (.t 42) 0, none⟩,
    ⟨(some 48), .extract (.t 42) 1, none⟩,
    ⟨(some 12), .mv (.t 47), none⟩,
    ⟨(some 13), .mv (.t 48), none⟩])
  (.seq (.reg [⟨(some 49), .call 8 [] none, none⟩,
    ⟨(some 50), .mv (.t 49), none⟩,
    ⟨(some 51), .mv (.t 9), (some (50, true))⟩,
    ⟨(some 52), .bin .eql (.t 51) (.k (.c (.d (.int .i64 0)))), (some (50, true))⟩,
    ⟨(some 53), .pick (.t 50) (.t 52) (.k (.c (.d (.bool false)))), none⟩,
    ⟨(some 54), .mv (.t 53), none⟩,
    ⟨(some 55), .mv (.t 11), (some (54, true))⟩,
    ⟨(some 56), .bin .eql (.t 55) (.k (.c (.d (.int .i64 0)))), (some (54, true))⟩,
    ⟨(some 57), .pick (.t 54) (.t 56) (.k (.c (.d (.bool false)))), none⟩,
    ⟨(some 58), .mv (.t 57), none⟩,
    ⟨(some 59), .mv (.t 13), (some (58, true))⟩,
    ⟨(some 60), .bin .eql (.t 59) (.k (.c (.d (.int .i64 0)))), (some (58, true))⟩,
    ⟨(some 61), .pick (.t 58) (.t 60) (.k (.c (.d (.bool false)))), none⟩,
    ⟨(some 62), .mv (.t 61), none⟩,
    ⟨(some 63), .mv (.t 10), (some (62, true))⟩,
    ⟨(some 64), .mv (.t 2), (some (62, true))⟩,
    ⟨(some 65), .call 15 [(.t 63), (.t 64)] none, (some (62, true))⟩,
    ⟨(some 66), .pick (.t 62) (.t 65) (.k (.c (.d (.bool false)))), none⟩,
    ⟨(some 67), .mv (.t 66), none⟩,
    ⟨(some 68), .mv (.t 8), (some (67, true))⟩,
    ⟨(some 69), .len (.t 68), (some (67, true))⟩,
    ⟨(some 70), .mv (.t 2), (some (67, true))⟩,
    ⟨(some 71), .len (.t 70), (some (67, true))⟩,
    ⟨(some 72), .bin .add (.t 71) (.k (.c (.d (.int .i64 16)))), (some (67, true))⟩,
    ⟨(some 73), .bin .eql (.t 69) (.t 72), (some (67, true))⟩,
    ⟨(some 74), .pick (.t 67) (.t 73) (.k (.c (.d (.bool false)))), none⟩,
    ⟨(some 75), .mv (.t 74), none⟩,
    ⟨(some 76), .mv (.t 8), (some (75, true))⟩,
    ⟨(some 77), .slice 1 (.t 76) none (some (.k (.c (.d (.int .i64 16))))) none, (some (75, true))⟩,
    ⟨(some 78), .mv (.t 12), (some (75, true))⟩,
    ⟨(some 79), .call 15 [(.t 77), (.t 78)] none, (some (75, true))⟩,
    ⟨(some 80), .pick (.t 75) (.t 79) (.k (.c (.d (.bool false)))), none⟩,
    ⟨(some 6), .mv (.t 80), none⟩])
  (.ret))))))),
  [(6, none)]⟩
theorem cf_aopens : compFn Try.prog { own := [], comp := [], frz := [], nils := [] } Try.f4 = some sf_aopens := by kernel_rfl
set_option maxHeartbeats 1600000 in
theorem aopens_c (G : Glob) (seed : Int) (hseed1 : -9223372036854775808 ≤ seed) (hseed2 : seed ≤ 9223372036854775807) (ad : List (List UInt8)) (had1 : ad.length ≤ maxLen) (had2 : ∀ x ∈ ad, x.length ≤ maxLen) (b : List UInt8) (hb : b.length ≤ maxLen)  : Den Try.prog G 4 [.int .i64 seed, .sl (ad.map fun l => D.sl (l.map bD)), .sl (b.map bD)] (.w (.c (.d (.bool true)))) := by
  refine den_walk Try.func4 cf_aopens rfl rfl ?_
  have hm : maxLen ≤ 9223372036854775807 := by decide
  have hx : ∀ x ∈ ad, x.length ≤ 9223372036854775807 := fun x hx => Nat.le_trans (had2 x hx) hm
  have r0 := withinN_range seed 1000 (by decide)
  have e0 := within_c G seed 1000 (by decide)
  have w1 := wkey_c G (withinN seed 1000)
  have kl : (bytesK (withinN seed 1000) 32).length = 32 := bytesK_len _ _
  generalize withinN seed 1000 = s at *
  generalize bytesK s 32 = key at *
  have hl := lit_c G key b ad (by omega) (by omega) hx (by omega)
  cases h : lightB key ad b
  · rw [h] at hl
    simp only [sf_aopens, putAll, wx, wy, wz, stV, seval, IntWalk.iteOmega, IntWalk.toNatUp, reduceCtorEq]
    refine st_call (e0) rfl (.inl rfl) ?_
    simp only [wx, wy, wz, stV, seval, IntWalk.iteOmega, IntWalk.toNatUp, reduceCtorEq]
    refine st_call (w1) rfl (.inl rfl) ?_
    simp only [wx, wy, wz, stV, seval, IntWalk.iteOmega, IntWalk.toNatUp, reduceCtorEq]
    refine st_call (hl) rfl (.inl rfl) ?_
    simp only [wx, wy, wz, stV, seval, IntWalk.iteOmega, IntWalk.toNatUp, reduceCtorEq]
    refine st_call (known6_c G) rfl (.inl rfl) ?_
    simp only [wx, wy, wz, stV, seval, IntWalk.iteOmega, IntWalk.toNatUp, reduceCtorEq]
    exact ret_d1 (by simp only [wx, wy, wz, stV, seval, IntWalk.iteOmega, IntWalk.toNatUp, reduceCtorEq])
  · rw [h] at hl
    obtain ⟨_, h2, h3, h4⟩ := lightB_ok h
    by_cases h5 : 16 < ad.length
    · simp only [sf_aopens, putAll, wx, wy, wz, stV, seval, IntWalk.iteOmega, IntWalk.toNatUp, reduceCtorEq]
      refine st_call (e0) rfl (.inl rfl) ?_
      simp only [wx, wy, wz, stV, seval, IntWalk.iteOmega, IntWalk.toNatUp, reduceCtorEq]
      refine st_call (w1) rfl (.inl rfl) ?_
      simp only [wx, wy, wz, stV, seval, IntWalk.iteOmega, IntWalk.toNatUp, reduceCtorEq]
      refine st_call (hl) rfl (.inl rfl) ?_
      simp only [wx, wy, wz, stV, seval, IntWalk.iteOmega, IntWalk.toNatUp, reduceCtorEq]
      refine st_call (known6_c G) rfl (.inl rfl) ?_
      simp only [wx, wy, wz, stV, seval, IntWalk.iteOmega, IntWalk.toNatUp, reduceCtorEq]
      exact ret_d1 (by simp only [wx, wy, wz, stV, seval, IntWalk.iteOmega, IntWalk.toNatUp, reduceCtorEq])
    · have he : aeE key ad b.length = 0 := aeE_zero kl (by omega) (fun x hx => by have := h4 x hx; omega) (by omega)
      have hs := seal_c G key ad b (by omega) (by omega) hx (by omega)
      have ht := tag_c G key ad b (by omega) (by omega) hx (by omega)
      have hv : tagV key ad b = tagM key ad b := if_pos he
      rw [he, sealV_ok he] at hs
      rw [he, hv] at ht
      have hlen : (tagM key ad b ++ strS key (tagM key ad b) b).length = 16 + b.length := by rw [List.length_append, tagM_len, strS_len]
      obtain ⟨o1, o2⟩ := opn_seal he
      have ho := opn_c G key ad (tagM key ad b ++ strS key (tagM key ad b) b) (by omega) (by omega) hx (by omega)
      rw [o1, o2] at ho
      have htk : (tagM key ad b ++ strS key (tagM key ad b) b).take 16 = tagM key ad b := seal_take _
      have hc := Int.add_comm (16 : Int) (b.length : Int)
      generalize tagM key ad b ++ strS key (tagM key ad b) b = X at *
      simp only [sf_aopens, putAll, wx, wy, wz, stV, seval, IntWalk.iteOmega, IntWalk.toNatUp, reduceCtorEq]
      refine st_call (e0) rfl (.inl rfl) ?_
      simp only [wx, wy, wz, stV, seval, IntWalk.iteOmega, IntWalk.toNatUp, reduceCtorEq]
      refine st_call (w1) rfl (.inl rfl) ?_
      simp only [wx, wy, wz, stV, seval, IntWalk.iteOmega, IntWalk.toNatUp, reduceCtorEq]
      refine st_call (hl) rfl (.inl rfl) ?_
      simp only [wx, wy, wz, stV, seval, IntWalk.iteOmega, IntWalk.toNatUp, reduceCtorEq]
      refine st_call (hs) rfl (.inl rfl) ?_
      simp only [wx, wy, wz, stV, seval, IntWalk.iteOmega, IntWalk.toNatUp, reduceCtorEq]
      refine st_call (ho) rfl (.inl rfl) ?_
      simp only [wx, wy, wz, stV, seval, IntWalk.iteOmega, IntWalk.toNatUp, reduceCtorEq]
      refine st_call (ht) rfl (.inl rfl) ?_
      simp only [wx, wy, wz, stV, seval, IntWalk.iteOmega, IntWalk.toNatUp, reduceCtorEq]
      refine st_call (known6_c G) rfl (.inl rfl) ?_
      simp only [wx, wy, wz, stV, seval, IntWalk.iteOmega, IntWalk.toNatUp, reduceCtorEq]
      refine st_call (rsame_c G b b) rfl (.inl rfl) ?_
      simp only [hlen, htk, wx, wy, wz, stV, seval, IntWalk.iteOmega, IntWalk.toNatUp, reduceCtorEq]
      refine st_call (rsame_c G (tagM key ad b) (tagM key ad b)) rfl (.inl rfl) ?_
      simp only [wx, wy, wz, stV, seval, IntWalk.iteOmega, IntWalk.toNatUp, reduceCtorEq]
      exact ret_d1 (by simp only [wx, wy, wz, stV, seval, IntWalk.iteOmega, IntWalk.toNatUp, reduceCtorEq])
def sf_aparts : SFn := ⟨3, 108,
  .seq (.reg [⟨(some 6), .mv (.k (.c (.d (.bool false)))), none⟩])
  (.seq (.reg [⟨(some 15), .mv (.t 0), none⟩,
    ⟨(some 16), .call 17 [(.t 15), (.k (.c (.d (.int .i64 1000))))] none, none⟩,
    ⟨(some 17), .call 16 [(.t 16)] none, none⟩,
    ⟨(some 7), .mv (.t 17), none⟩])
  (.seq (.seq (.reg [⟨(some 18), .mv (.t 7), none⟩,
    ⟨(some 19), .mv (.t 1), none⟩,
    ⟨(some 20), .mv (.t 2), none⟩,
    ⟨(some 21), .call 7 [(.t 18), (.t 19), (.t 20)] none, none⟩,
    ⟨(some 22), .un .not (.t 21), none⟩,
    ⟨(some 23), .mv (.t 22), none⟩,
    ⟨(some 24), .mv (.t 1), (some (23, false))⟩,
    ⟨(some 25), .len (.t 24), (some (23, false))⟩,
    ⟨(some 26), .bin .gtr (.t 25) (.k (.c (.d (.int .i64 16)))), (some (23, false))⟩,
    ⟨(some 27), .pick (.t 23) (.k (.c (.d (.bool true)))) (.t 26), none⟩])
  (.cond (.t 27) (.seq (.reg [⟨(some 28), .call 8 [] none, none⟩,
     ⟨(some 6), .mv (.t 28), none⟩])
   (.ret))
   (.skip)))
  (.seq (.reg [⟨(some 30), .mv (.t 7), none⟩,
    ⟨(some 31), .mv (.t 1), none⟩,
    ⟨(some 32), .mv (.t 2), none⟩,
    ⟨(some 33), .call 11 [(.t 30), (.t 31), (.t 32)] none, none⟩,
    ⟨(some 29), .mv (.t 33), none⟩,
    ⟨(some 34), .extract (.t 29) 0, none⟩,
    ⟨(some 35), .extract (.t 29) 1, none⟩,
    ⟨(some 8), .mv (.t 34), none⟩,
    ⟨(some 9), .mv (.t 35), none⟩])
  (.seq (.reg [⟨(some 37), .mv (.t 7), none⟩,
    ⟨(some 38), .slice 1 (.t 37) none (some (.k (.c (.d (.int .i64 16))))) none, none⟩,
    ⟨(some 39), .bldSl false 0 1 (.sl []) [], none⟩,
    ⟨(some 40), .mv (.t 1), none⟩,
    ⟨(some 41), .appN false 1 24 (.t 39) (.t 40), none⟩,
    ⟨(some 42), .mv (.t 2), none⟩,
    ⟨(some 43), .bldSl false 1 1 (.sl []) [(0, (.t 42))], none⟩,
    ⟨(some 44), .app false 1 24 (.t 41) (.t 43), none⟩,
    ⟨(some 45), .call 18 [(.t 38), (.t 44)] none, none⟩,
    ⟨(some 36), .mv (.t 45), none⟩,
    ⟨(some 46), .extract (.t 36) 0, none⟩,
    ⟨(some 47), .extract (.t 36) 1, none⟩,
    ⟨(some 10), .mv (.t 46), none⟩,
    ⟨(some 11), .mv (.t 47), none⟩])
  (.seq (.seq (.reg [⟨(some 48), .mv (.t 9), none⟩,
    ⟨(some 49), .bin .neq (.t 48) (.k (.c (.d (.int .i64 0)))), none⟩,
    ⟨(some 50), .mv (.t 49), none⟩,
    ⟨(some 51), .mv (.t 11), (some (50, false))⟩,
    ⟨(some 52), .bin .neq (.t 51) (.k (.c (.d (.int .i64 0)))), (some (50, false))⟩,
    ⟨(some 53), .pick (.t 50) (.k (.c (.d (.bool true)))) (.t 52), none⟩,
    ⟨(some 54), .mv (.t 53), none⟩,
    ⟨(some 55), .mv (.t 8), (some (54, false))⟩,
    ⟨(some 56), .len (.t 55), (some (54, false))⟩,
    ⟨(some 57), .mv (.t 2), (some (54, false))⟩,
    ⟨(some 58), .len (.t 57), (some (54, false))⟩,
    ⟨(some 59), .bin .add (.t 58) (.k (.c (.d (.int .i64 16)))), (some (54, false))⟩,
    ⟨(some 60), .bin .neq (.t 56) (.t 59), (some (54, false))⟩,
    ⟨(some 61), .pick (.t 54) (.k (.c (.d (.bool true)))) (.t 60), none⟩,
    ⟨(some 62), .mv (.t 61), none⟩,
    ⟨(some 63), .mv (.t 8), (some (62, false))⟩,
    ⟨(some 64), .slice 1 (.t 63) none (some (.k (.c (.d (.int .i64 16))))) none, (some (62, false))⟩,
    ⟨(some 65), .mv (.t 10), (some (62, false))⟩,
    ⟨(some 66), .call 15 [(.t 64), (.t 65)] none, (some (62, false))⟩,
    ⟨(some 67), .un .not (.t 66), (some (62, false))⟩,
    ⟨(some 68), .pick (.t 62) (.k (.c (.d (.bool true)))) (.t 67), none⟩,
    ⟨(some 69), .mv (.t 68), none⟩,
    ⟨(some 70), .mv (.t 10), (some (69, false))⟩,
    ⟨(some 71), .len (.t 70), (some (69, false))⟩,
    ⟨(some 72), .bin .neq (.t 71) (.k (.c (.d (.int .i64 16)))), (some (69, false))⟩,
    ⟨(some 73), .pick (.t 69) (.k (.c (.d (.bool true)))) (.t 72), none⟩])
  (.cond (.t 73) (.seq (.reg [⟨(some 6), .mv (.k (.c (.d (.bool false)))), none⟩])
   (.ret))
   (.skip)))
  (.seq (.reg [⟨(some 74), .mv (.t 10), none⟩,
    ⟨(some 75), .bldSl false 1 1 (.sl []) [(0, (.t 74))], none⟩,
    ⟨(some 76), .call 19 [(.t 75)] (some (0, 1)), none⟩,
    ⟨(some 12), .mv (.t 76), none⟩])
  (.seq (.reg [⟨(some 77), .mv (.t 12), none⟩,
    ⟨(some 78), .mv (.t 12), none⟩,
    ⟨(some 79), .mv (.t 12), none⟩,
    ⟨(some 80), .idxSl 1 (.t 79) (.k (.c (.d (.int .i64 8)))), none⟩,
    ⟨(some 81), .load .sc (.t 80), none⟩,
    ⟨(some 82), .bin .and (.t 81) (.k (.c (.d (.int .u8 127)))), none⟩,
    ⟨(some 83), .mv (.t 12), none⟩,
    ⟨(some 84), .idxSl 1 (.t 83) (.k (.c (.d (.int .i64 12)))), none⟩,
    ⟨(some 85), .load .sc (.t 84), none⟩,
    ⟨(some 86), .bin .and (.t 85) (.k (.c (.d (.int .u8 127)))), none⟩,
    ⟨(some 87), .idxSl 1 (.t 77) (.k (.c (.d (.int .i64 8)))), none⟩,
    ⟨none, .store .sc (.t 87) (.t 82), none⟩,
    ⟨(some 88), .idxSl 1 (.t 78) (.k (.c (.d (.int .i64 12)))), none⟩,
    ⟨none, .store .sc (.t 88) (.t 86), none⟩])
  (.seq (.reg [⟨(some 90), .mv (.t 7), none⟩,
    ⟨(some 91), .slice 1 (.t 90) (some (.k (.c (.d (.int .i64 16))))) none none, none⟩,
    ⟨(some 92), .mv (.t 12), none⟩,
    ⟨(some 93), .mv (.t 2), none⟩,
    ⟨(some 94), .call 20 [(.t 91), (.t 92), (.t 93)] none, none⟩,
    ⟨(some 89), .mv (.t 94), none⟩,
    ⟨(some 95), .extract (.t 89) 0, none⟩,
    ⟨(some 96), .extract (.t 89) 1, none⟩,
    ⟨(some 13), .mv (.t 95), none⟩,
    ⟨(some 14), .mv (.t 96), none⟩])
  (.seq (.reg [⟨(some 97), .call 8 [] none, none⟩,
    ⟨(some 98), .mv (.t 97), none⟩,
    ⟨(some 99), .mv (.t 14), (some (98, true))⟩,
    ⟨(some 100), .bin .eql (.t 99) (.k (.c (.d (.int .i64 0)))), (some (98, true))⟩,
    ⟨(some 101), .pick (.t 98) (.t 100) (.k (.c (.d (.bool false)))), none⟩,
    ⟨(some 102), .mv (.t 101), none⟩,
    ⟨(some 103), .mv (.t 8), (some (102, true))⟩,
    ⟨(some 104), .slice 1 (.t 103) (some (.k (.c (.d (.int .i64 16))))) none none, (some (102, true))⟩,
    ⟨(some 105), .mv (.t 13), (some (102, true))⟩,
    ⟨(some 106), .call 15 [(.t 104), (.t 105)] none, (some (102, true))⟩,
    ⟨(some 107), .pick (.t 102) (.t 106) (.k (.c (.d (.bool false)))), none⟩,
    ⟨(some 6), .mv (.t 107), none⟩])
  (.ret)))))))))),
  [(6, none)]⟩
theorem cf_aparts : compFn Try.prog { own := [76], comp := [], frz := [], nils := [41] } Try.f5 = some sf_aparts := by kernel_rfl
set_option maxHeartbeats 1600000 in
theorem aparts_c (G : Glob) (seed : Int) (hseed1 : -9223372036854775808 ≤ seed) (hseed2 : seed ≤ 9223372036854775807) (ad : List (List UInt8)) (had1 : ad.length ≤ maxLen) (had2 : ∀ x ∈ ad, x.length ≤ maxLen) (b : List UInt8) (hb : b.length ≤ maxLen)  : Den Try.prog G 5 [.int .i64 seed, .sl (ad.map fun l => D.sl (l.map bD)), .sl (b.map bD)] (.w (.c (.d (.bool true)))) := by
  refine den_walk Try.func5 cf_aparts rfl rfl ?_
  have hm : maxLen ≤ 9223372036854775807 := by decide
  have hx : ∀ x ∈ ad, x.length ≤ 9223372036854775807 := fun x hx => Nat.le_trans (had2 x hx) hm
  have r0 := withinN_range seed 1000 (by decide)
  have e0 := within_c G seed 1000 (by decide)
  have w1 := wkey_c G (withinN seed 1000)
  have kl : (bytesK (withinN seed 1000) 32).length = 32 := bytesK_len _ _
  generalize withinN seed 1000 = s at *
  generalize bytesK s 32 = key at *
  have hl := lit_c G key b ad (by omega) (by omega) hx (by omega)
  cases h : lightB key ad b
  · rw [h] at hl
    simp only [sf_aparts, putAll, wx, wy, wz, stV, seval, IntWalk.iteOmega, IntWalk.toNatUp, reduceCtorEq]
    refine st_call (e0) rfl (.inl rfl) ?_
    simp only [wx, wy, wz, stV, seval, IntWalk.iteOmega, IntWalk.toNatUp, reduceCtorEq]
    refine st_call (w1) rfl (.inl rfl) ?_
    simp only [wx, wy, wz, stV, seval, IntWalk.iteOmega, IntWalk.toNatUp, reduceCtorEq]
    refine st_call (hl) rfl (.inl rfl) ?_
    simp only [wx, wy, wz, stV, seval, IntWalk.iteOmega, IntWalk.toNatUp, reduceCtorEq]
    refine st_call (known6_c G) rfl (.inl rfl) ?_
    simp only [wx, wy, wz, stV, seval, IntWalk.iteOmega, IntWalk.toNatUp, reduceCtorEq]
    exact ret_d1 (by simp only [wx, wy, wz, stV, seval, IntWalk.iteOmega, IntWalk.toNatUp, reduceCtorEq])
  · rw [h] at hl
    obtain ⟨_, h2, h3, h4⟩ := lightB_ok h
    by_cases h5 : 16 < ad.length
    · simp only [sf_aparts, putAll, wx, wy, wz, stV, seval, IntWalk.iteOmega, IntWalk.toNatUp, reduceCtorEq]
      refine st_call (e0) rfl (.inl rfl) ?_
      simp only [wx, wy, wz, stV, seval, IntWalk.iteOmega, IntWalk.toNatUp, reduceCtorEq]
      refine st_call (w1) rfl (.inl rfl) ?_
      simp only [wx, wy, wz, stV, seval, IntWalk.iteOmega, IntWalk.toNatUp, reduceCtorEq]
      refine st_call (hl) rfl (.inl rfl) ?_
      simp only [wx, wy, wz, stV, seval, IntWalk.iteOmega, IntWalk.toNatUp, reduceCtorEq]
      refine st_call (known6_c G) rfl (.inl rfl) ?_
      simp only [wx, wy, wz, stV, seval, IntWalk.iteOmega, IntWalk.toNatUp, reduceCtorEq]
      exact ret_d1 (by simp only [wx, wy, wz, stV, seval, IntWalk.iteOmega, IntWalk.toNatUp, reduceCtorEq])
    · have h4' : ∀ x ∈ ad, x.length ≤ 65519 := fun x hx => by have := h4 x hx; omega
      have he : aeE key ad b.length = 0 := aeE_zero kl (by omega) h4' (by omega)
      obtain ⟨k1, k2, k3, k4⟩ := aeE_ok he
      have hs := seal_c G key ad b (by omega) (by omega) hx (by omega)
      rw [he, sealV_ok he] at hs
      have hkk : (key.take 16).length = 16 := by rw [List.length_take]; omega
      have hkd : (key.drop 16).length = 16 := by rw [List.length_drop]; omega
      have hk2 : (key.drop 16).take 16 = key.drop 16 := List.take_of_length_le (by omega)
      have hbb : b.length ≤ 65519 := by omega
      obtain ⟨v1, v2⟩ := vctV_ok (l := ad ++ [b]) hkk (by simp; omega) (ad_all k3 hbb)
      have hvv := vctr_f G (key.take 16) (ad ++ [b]) (by omega) (by simp; omega) (fun x hx => Nat.le_trans (ad_all k3 hbb x hx) (by decide))
      rw [v1, v2] at hvv
      have ht : vecM (rkK (key.take 16)) (ad ++ [b]) = tagM key ad b := rfl
      rw [ht] at hvv
      have ha : (ad.map fun l => D.sl (l.map bD)) ++ [D.sl (b.map bD)] = (ad ++ [b]).map fun l => D.sl (l.map bD) := by rw [List.map_append]; rfl
      have tl : (ad ++ [b]).take (ad.length + 1) = ad ++ [b] := List.take_of_length_le (by simp)
      have hlen : (tagM key ad b ++ strS key (tagM key ad b) b).length = 16 + b.length := by rw [List.length_append, tagM_len, strS_len]
      have htk : (tagM key ad b ++ strS key (tagM key ad b) b).take 16 = tagM key ad b := seal_take _
      have hdr : ((tagM key ad b ++ strS key (tagM key ad b) b).drop 16).take (16 + b.length - 16) = strS key (tagM key ad b) b := by rw [seal_drop]; exact List.take_of_length_le (by rw [strS_len]; omega)
      have hTl := tagM_len key ad b
      have hct : (ctrT (tagM key ad b)).length = 16 := by rw [ctrT_len, tagM_len]
      obtain ⟨v3, v4⟩ := strmVE_ok (c := ctrT (tagM key ad b)) (b := b) hkd hct (by omega)
      have hst := stm_f G (key.drop 16) (ctrT (tagM key ad b)) b (by omega) (by omega) (by omega)
      rw [v3, v4] at hst
      have hsS : strmC (rkK (key.drop 16)) (ctrT (tagM key ad b)) b = strS key (tagM key ad b) b := rfl
      rw [hsS] at hst
      have hsl := strS_len key (tagM key ad b) b
      generalize strS key (tagM key ad b) b = SS at *
      generalize tagM key ad b ++ SS = X at *
      generalize hT : tagM key ad b = T at *
      have hj := rjoin_c G [T] (by simp) (by simp; omega)
      have hf : [T].flatten = T := by simp
      rw [hf] at hj
      have g1 := ctr_get hTl (i := 8) (by decide)
      have g2 := ctr_get hTl (i := 12) (by decide)
      have g3 := ctr_two hTl (andB (T.getD 8 0) 127)
      have x1 := bl_and (T.getD 8 0) 127 127 rfl
      have x2 := bl_and (T.getD 12 0) 127 127 rfl
      have hsT : (T.set 8 (andB (T.getD 8 0) 127)).set 12 (andB (T.getD 12 0) 127) = ctrT T := rfl
      have hctk : (ctrT T).take 16 = ctrT T := List.take_of_length_le (by omega)
      simp only [sf_aparts, putAll, wx, wy, wz, stV, seval, IntWalk.iteOmega, IntWalk.toNatUp, reduceCtorEq]
      refine st_call (e0) rfl (.inl rfl) ?_
      simp only [wx, wy, wz, stV, seval, IntWalk.iteOmega, IntWalk.toNatUp, reduceCtorEq]
      refine st_call (w1) rfl (.inl rfl) ?_
      simp only [wx, wy, wz, stV, seval, IntWalk.iteOmega, IntWalk.toNatUp, reduceCtorEq]
      refine st_call (hl) rfl (.inl rfl) ?_
      simp only [wx, wy, wz, stV, seval, IntWalk.iteOmega, IntWalk.toNatUp, reduceCtorEq]
      refine st_call (hs) rfl (.inl rfl) ?_
      simp only [srcV, allSz_ls, ha, wx, wy, wz, stV, seval, IntWalk.iteOmega, IntWalk.toNatUp, reduceCtorEq]
      refine st_call hvv (by simp only [wx, wy, wz, stV, seval, IntWalk.iteOmega, IntWalk.toNatUp, reduceCtorEq, tl]) (.inr (fl_bt _ _ _ _)) ?_
      simp only [wx, wy, wz, stV, seval, IntWalk.iteOmega, IntWalk.toNatUp, reduceCtorEq, hlen, htk, hTl]
      refine st_call (rsame_c G T T) rfl (.inl rfl) ?_
      simp only [hTl, wx, wy, wz, stV, seval, IntWalk.iteOmega, IntWalk.toNatUp, reduceCtorEq]
      refine st_call (hj) rfl (.inl rfl) ?_
      simp only [get_map, g1, g2, g3, x1, x2, set_map, hsT, kl, hk2, hTl, wx, wy, wz, stV, seval, IntWalk.iteOmega, IntWalk.toNatUp, reduceCtorEq]
      refine st_call hst (by simp only [wx, wy, wz, stV, seval, IntWalk.iteOmega, IntWalk.toNatUp, reduceCtorEq, hctk, hct]) (.inr (fl_bt _ _ _ _)) ?_
      simp only [wx, wy, wz, stV, seval, IntWalk.iteOmega, IntWalk.toNatUp, reduceCtorEq]
      refine st_call (known6_c G) rfl (.inl rfl) ?_
      simp only [hlen, hdr, wx, wy, wz, stV, seval, IntWalk.iteOmega, IntWalk.toNatUp, reduceCtorEq]
      refine st_call (rsame_c G SS SS) rfl (.inl rfl) ?_
      simp only [wx, wy, wz, stV, seval, IntWalk.iteOmega, IntWalk.toNatUp, reduceCtorEq]
      exact ret_d1 (by simp only [wx, wy, wz, stV, seval, IntWalk.iteOmega, IntWalk.toNatUp, reduceCtorEq])
theorem opnE_two {key s : List UInt8} {ad : List (List UInt8)} (h : aeE key ad ((s.length : Int) - 16) = 0) (hs : 16 ≤ s.length) : opnE key ad s = 0 ∨ opnE key ad s = 6 := by
  by_cases hq : s.take 16 = tagM key ad (strS key (s.take 16) (s.drop 16))
  · exact .inl (opn_ok h (by omega) hq).1
  · exact .inr (opn_auth h (by omega) hq).1
theorem two_lists {a b : List UInt8} : sls [a, b] = .sl [.sl (a.map bD), .sl (b.map bD)] := rfl
def sf_arefs : SFn := ⟨5, 114,
  .seq (.reg [⟨(some 10), .mv (.k (.c (.d (.bool false)))), none⟩])
  (.seq (.reg [⟨(some 20), .mv (.t 0), none⟩,
    ⟨(some 21), .call 17 [(.t 20), (.k (.c (.d (.int .i64 1000))))] none, none⟩,
    ⟨(some 0), .mv (.t 21), none⟩])
  (.seq (.reg [⟨(some 22), .mv (.t 0), none⟩,
    ⟨(some 23), .call 16 [(.t 22)] none, none⟩,
    ⟨(some 24), .mv (.t 0), none⟩,
    ⟨(some 25), .bin .add (.t 24) (.k (.c (.d (.int .i64 1)))), none⟩,
    ⟨(some 26), .mv (.t 1), none⟩,
    ⟨(some 27), .call 17 [(.t 26), (.k (.c (.d (.int .i64 50))))] none, none⟩,
    ⟨(some 28), .call 21 [(.t 25), (.t 27)] none, none⟩,
    ⟨(some 11), .mv (.t 23), none⟩,
    ⟨(some 12), .mv (.t 28), none⟩])
  (.seq (.reg [⟨(some 29), .mv (.t 0), none⟩,
    ⟨(some 30), .bin .add (.t 29) (.k (.c (.d (.int .i64 2)))), none⟩,
    ⟨(some 31), .call 21 [(.t 30), (.k (.c (.d (.int .i64 20))))] none, none⟩,
    ⟨(some 32), .mv (.t 0), none⟩,
    ⟨(some 33), .bin .add (.t 32) (.k (.c (.d (.int .i64 3)))), none⟩,
    ⟨(some 34), .call 21 [(.t 33), (.k (.c (.d (.int .i64 16))))] none, none⟩,
    ⟨(some 35), .bldSl true 2 1 (.sl []) [(0, (.t 31)), (1, (.t 34))], none⟩,
    ⟨(some 13), .mv (.t 35), none⟩])
  (.seq (.reg [⟨(some 37), .mv (.t 11), none⟩,
    ⟨(some 38), .mv (.t 13), none⟩,
    ⟨(some 39), .mv (.t 12), none⟩,
    ⟨(some 40), .call 12 [(.t 37), (.t 38), (.t 39)] none, none⟩,
    ⟨(some 36), .mv (.t 40), none⟩,
    ⟨(some 41), .extract (.t 36) 0, none⟩,
    ⟨(some 42), .extract (.t 36) 1, none⟩,
    ⟨(some 14), .mv (.t 41), none⟩,
    ⟨(some 15), .mv (.t 42), none⟩])
  (.seq (.seq (.reg [⟨(some 43), .mv (.t 15), none⟩,
    ⟨(some 44), .bin .neq (.t 43) (.k (.c (.d (.int .i64 0)))), none⟩])
  (.cond (.t 44) (.seq (.reg [⟨(some 10), .mv (.k (.c (.d (.bool false)))), none⟩])
   (.ret))
   (.skip)))
  (.seq (.seq (.reg [⟨(some 45), .mv (.t 4), none⟩,
    ⟨(some 46), .call 17 [(.t 45), (.k (.c (.d (.int .i64 4))))] none, none⟩])
  (.block 0 (.seq (.reg [⟨(some 48), .bin .eql (.t 46) (.k (.c (.d (.int .i64 0)))), none⟩,
     ⟨(some 47), .mv (.t 48), none⟩])
   (.cond (.t 47) (.reg [⟨(some 49), .mv (.t 14), none⟩,
      ⟨(some 50), .mv (.t 2), none⟩,
      ⟨(some 51), .mv (.t 3), none⟩,
      ⟨(some 52), .call 22 [(.t 49), (.t 50), (.t 51)] none, none⟩,
      ⟨(some 14), .mv (.t 52), none⟩])
    (.seq (.reg [⟨(some 54), .bin .eql (.t 46) (.k (.c (.d (.int .i64 1)))), none⟩,
      ⟨(some 53), .mv (.t 54), none⟩])
    (.cond (.t 53) (.reg [⟨(some 55), .mv (.t 11), none⟩,
       ⟨(some 56), .mv (.t 2), none⟩,
       ⟨(some 57), .mv (.t 3), none⟩,
       ⟨(some 58), .call 22 [(.t 55), (.t 56), (.t 57)] none, none⟩,
       ⟨(some 11), .mv (.t 58), none⟩])
     (.seq (.reg [⟨(some 60), .bin .eql (.t 46) (.k (.c (.d (.int .i64 2)))), none⟩,
       ⟨(some 59), .mv (.t 60), none⟩])
     (.cond (.t 59) (.reg [⟨(some 61), .mv (.t 13), none⟩,
        ⟨(some 62), .mv (.t 13), none⟩,
        ⟨(some 63), .idxSl 1 (.t 62) (.k (.c (.d (.int .i64 0)))), none⟩,
        ⟨(some 64), .load .sc (.t 63), none⟩,
        ⟨(some 65), .mv (.t 2), none⟩,
        ⟨(some 66), .mv (.t 3), none⟩,
        ⟨(some 67), .call 22 [(.t 64), (.t 65), (.t 66)] none, none⟩,
        ⟨(some 68), .idxSl 1 (.t 61) (.k (.c (.d (.int .i64 0)))), none⟩,
        ⟨none, .store .sc (.t 68) (.t 67), none⟩])
      (.seq (.reg [⟨(some 70), .bin .eql (.t 46) (.k (.c (.d (.int .i64 3)))), none⟩,
        ⟨(some 69), .mv (.t 70), none⟩])
      (.cond (.t 69) (.reg [⟨(some 71), .mv (.t 13), none⟩,
         ⟨(some 72), .mv (.t 13), none⟩,
         ⟨(some 73), .mv (.t 13), none⟩,
         ⟨(some 74), .idxSl 1 (.t 73) (.k (.c (.d (.int .i64 1)))), none⟩,
         ⟨(some 75), .load .sc (.t 74), none⟩,
         ⟨(some 76), .mv (.t 13), none⟩,
         ⟨(some 77), .idxSl 1 (.t 76) (.k (.c (.d (.int .i64 0)))), none⟩,
         ⟨(some 78), .load .sc (.t 77), none⟩,
         ⟨(some 79), .idxSl 1 (.t 71) (.k (.c (.d (.int .i64 0)))), none⟩,
         ⟨none, .store .sc (.t 79) (.t 75), none⟩,
         ⟨(some 80), .idxSl 1 (.t 72) (.k (.c (.d (.int .i64 1)))), none⟩,
         ⟨none, .store .sc (.t 80) (.t 78), none⟩])
       (.skip)))))))))))
  (.seq (.reg [⟨(some 82), .mv (.t 11), none⟩,
    ⟨(some 83), .mv (.t 13), none⟩,
    ⟨(some 84), .mv (.t 14), none⟩,
    ⟨(some 85), .call 13 [(.t 82), (.t 83), (.t 84)] none, none⟩,
    ⟨(some 81), .mv (.t 85), none⟩,
    ⟨(some 86), .extract (.t 81) 0, none⟩,
    ⟨(some 87), .extract (.t 81) 1, none⟩,
    ⟨(some 16), .mv (.t 86), none⟩,
    ⟨(some 17), .mv (.t 87), none⟩])
  (.seq (.reg [⟨(some 89), .mv (.t 11), none⟩,
    ⟨(some 90), .mv (.t 13), none⟩,
    ⟨(some 91), .mv (.t 14), none⟩,
    ⟨(some 92), .call 14 [(.t 89), (.t 90), (.t 91)] none, none⟩,
    ⟨(some 88), .mv (.t 92), none⟩,
    ⟨(some 93), .extract (.t 88) 0, none⟩,
    ⟨(some 94), .extract (.t 88) 1, none⟩,
    ⟨(some 18), .mv (.t 93), none⟩,
    ⟨(some 19), .mv (.t 94), none⟩])
  (.seq (.reg [⟨(some 95), .call 8 [] none, none⟩,
    ⟨(some 96), .mv (.t 95), none⟩,
    ⟨(some 97), .mv (.t 17), (some (96, true))⟩,
    ⟨(some 98), .mv (.t 19), (some (96, true))⟩,
    ⟨(some 99), .bin .eql (.t 97) (.t 98), (some (96, true))⟩,
    ⟨(some 100), .pick (.t 96) (.t 99) (.k (.c (.d (.bool false)))), none⟩,
    ⟨(some 101), .mv (.t 100), none⟩,
    ⟨(some 102), .mv (.t 16), (some (101, true))⟩,
    ⟨(some 103), .mv (.t 18), (some (101, true))⟩,
    ⟨(some 104), .call 15 [(.t 102), (.t 103)] none, (some (101, true))⟩,
    ⟨(some 105), .pick (.t 101) (.t 104) (.k (.c (.d (.bool false)))), none⟩,
    ⟨(some 106), .mv (.t 105), none⟩,
    ⟨(some 107), .mv (.t 17), (some (106, true))⟩,
    ⟨(some 108), .bin .eql (.t 107) (.k (.c (.d (.int .i64 0)))), (some (106, true))⟩,
    ⟨(some 109), .mv (.t 108), (some (106, true))⟩,
    ⟨(some 110), .mv (.t 17), (some (109, false))⟩,
    ⟨(some 111), .bin .eql (.t 110) (.k (.c (.d (.int .i64 6)))), (some (109, false))⟩,
    ⟨(some 112), .pick (.t 109) (.k (.c (.d (.bool true)))) (.t 111), (some (106, true))⟩,
    ⟨(some 113), .pick (.t 106) (.t 112) (.k (.c (.d (.bool false)))), none⟩,
    ⟨(some 10), .mv (.t 113), none⟩])
  (.ret)))))))))),
  [(10, none)]⟩
theorem cf_arefs : compFn Try.prog { own := [35], comp := [], frz := [], nils := [] } Try.f6 = some sf_arefs := by kernel_rfl
set_option maxHeartbeats 1600000 in
theorem arefs_c (G : Glob) (seed : Int) (hseed1 : -9223372036854775808 ≤ seed) (hseed2 : seed ≤ 9223372036854775807) (n : Int) (hn1 : -9223372036854775808 ≤ n) (hn2 : n ≤ 9223372036854775807) (at' : Int) (hat'1 : -9223372036854775808 ≤ at') (hat'2 : at' ≤ 9223372036854775807) (by' : Int) (hby'1 : -9223372036854775808 ≤ by') (hby'2 : by' ≤ 9223372036854775807) (what : Int) (hwhat1 : -9223372036854775808 ≤ what) (hwhat2 : what ≤ 9223372036854775807)  : Den Try.prog G 6 [.int .i64 seed, .int .i64 n, .int .i64 at', .int .i64 by', .int .i64 what] (.w (.c (.d (.bool true)))) := by
  refine den_walk Try.func6 cf_arefs rfl rfl ?_
  have r0 := withinN_range seed 1000 (by decide)
  have r1 := withinN_range n 50 (by decide)
  have r2 := withinN_range what 4 (by decide)
  have e0 := within_c G seed 1000 (by decide)
  have e1 := within_c G n 50 (by decide)
  have e2 := within_c G what 4 (by decide)
  have w0 := wkey_c G (withinN seed 1000)
  have w1 := wbytes_c G (withinN seed 1000 + 1) (withinN n 50) (by omega)
  have w2 := wbytes_c G (withinN seed 1000 + 2) 20 (by decide)
  have w3 := wbytes_c G (withinN seed 1000 + 3) 16 (by decide)
  have kl : (bytesK (withinN seed 1000) 32).length = 32 := bytesK_len _ _
  have pl : (bytesK (withinN seed 1000 + 1) (withinN n 50)).length = (withinN n 50).toNat := bytesK_len _ _
  have al : (bytesK (withinN seed 1000 + 2) 20).length = 20 := bytesK_len _ _
  have bl : (bytesK (withinN seed 1000 + 3) 16).length = 16 := bytesK_len _ _
  generalize withinN seed 1000 = s at *
  generalize withinN n 50 = nn at *
  generalize withinN what 4 = wh at *
  generalize bytesK s 32 = key at *
  generalize bytesK (s + 1) nn = p at *
  generalize bytesK (s + 2) 20 = a0 at *
  generalize bytesK (s + 3) 16 = a1 at *
  have mem2 : ∀ {x y z : List UInt8} {m : Nat}, y.length ≤ m → z.length ≤ m → x ∈ [y, z] → x.length ≤ m := by
    intro x y z m h1 h2 hx
    simp only [List.mem_cons, List.not_mem_nil, or_false] at hx
    rcases hx with rfl | rfl <;> assumption
  have he : aeE key [a0, a1] p.length = 0 := aeE_zero kl (by simp) (fun x hx => mem2 (m := 65519) (by omega) (by omega) hx) (by omega)
  have hs := rseal_f G key [a0, a1] p (by omega) (by simp) (fun x hx => mem2 (by omega) (by omega) hx) (by omega)
  rw [he, sealV_ok he] at hs
  have hX : (tagM key [a0, a1] p ++ strS key (tagM key [a0, a1] p) p).length = 16 + p.length := by rw [List.length_append, tagM_len, strS_len]
  generalize tagM key [a0, a1] p ++ strS key (tagM key [a0, a1] p) p = X at *
  have done : ∀ {kk c0 c1 xx : List UInt8}, kk.length = 32 → c0.length ≤ 20 → c1.length ≤ 20 → xx.length = 16 + p.length → aeE kk [c0, c1] ((xx.length : Int) - 16) = 0 := by
    intro kk c0 c1 xx h1 h2 h3 h4
    refine aeE_zero h1 (by simp) (fun x hx => mem2 (m := 65519) (by omega) (by omega) hx) (by omega)
  have two : ∀ {kk c0 c1 xx : List UInt8}, kk.length = 32 → c0.length ≤ 20 → c1.length ≤ 20 → xx.length = 16 + p.length → opnE kk [c0, c1] xx = 0 ∨ opnE kk [c0, c1] xx = 6 := by
    intro kk c0 c1 xx h1 h2 h3 h4
    exact opnE_two (done h1 h2 h3 h4) (by omega)
  have po : ∀ {kk c0 c1 xx : List UInt8}, kk.length = 32 → c0.length ≤ 20 → c1.length ≤ 20 → xx.length = 16 + p.length → _ := fun {kk c0 c1 xx} h1 h2 h3 h4 => opn_f G kk [c0, c1] xx (by omega) (by simp) (fun x hx => mem2 (by omega) (by omega) hx) (by omega)
  have ro : ∀ {kk c0 c1 xx : List UInt8}, kk.length = 32 → c0.length ≤ 20 → c1.length ≤ 20 → xx.length = 16 + p.length → _ := fun {kk c0 c1 xx} h1 h2 h3 h4 => ropn_f G kk [c0, c1] xx (by omega) (by simp) (fun x hx => mem2 (by omega) (by omega) hx) (by omega)
  have cx := changedL_len X at' by'
  have ck := changedL_len key at' by'
  have ca := changedL_len a0 at' by'
  have x1 := chg_c G X at' by' (by omega) (by omega)
  have x2 := chg_c G key at' by' (by omega) (by omega)
  have x3 := chg_c G a0 at' by' (by omega) (by omega)
  generalize changedL X at' by' = X' at *
  generalize changedL key at' by' = key' at *
  generalize changedL a0 at' by' = a0' at *
  have hcase : wh = 0 ∨ wh = 1 ∨ wh = 2 ∨ wh = 3 := by omega
  rcases hcase with rfl | rfl | rfl | rfl
  · have h1 := po (kk := key) (c0 := a0) (c1 := a1) (xx := X') kl (by omega) (by omega) (by omega)
    have h2 := ro (kk := key) (c0 := a0) (c1 := a1) (xx := X') kl (by omega) (by omega) (by omega)
    rcases two (kk := key) (c0 := a0) (c1 := a1) (xx := X') kl (by omega) (by omega) (by omega) with e | e
    all_goals
      rw [e] at h1 h2
      simp only [sf_arefs, putAll, wx, wy, wz, stV, seval, IntWalk.iteOmega, IntWalk.toNatUp, reduceCtorEq]
      refine st_call (e0) rfl (.inl rfl) ?_
      simp only [wx, wy, wz, stV, seval, IntWalk.iteOmega, IntWalk.toNatUp, reduceCtorEq]
      refine st_call (w0) rfl (.inl rfl) ?_
      simp only [wx, wy, wz, stV, seval, IntWalk.iteOmega, IntWalk.toNatUp, reduceCtorEq]
      refine st_call (e1) rfl (.inl rfl) ?_
      simp only [wx, wy, wz, stV, seval, IntWalk.iteOmega, IntWalk.toNatUp, reduceCtorEq]
      refine st_call (w1) rfl (.inl rfl) ?_
      simp only [wx, wy, wz, stV, seval, IntWalk.iteOmega, IntWalk.toNatUp, reduceCtorEq]
      refine st_call (w2) rfl (.inl rfl) ?_
      simp only [wx, wy, wz, stV, seval, IntWalk.iteOmega, IntWalk.toNatUp, reduceCtorEq]
      refine st_call (w3) rfl (.inl rfl) ?_
      simp only [wx, wy, wz, stV, seval, IntWalk.iteOmega, IntWalk.toNatUp, reduceCtorEq]
      refine st_call hs (by simp only [wx, wy, wz, stV, seval, IntWalk.iteOmega, IntWalk.toNatUp, reduceCtorEq, two_lists]) (.inr (fl_bt _ _ _ _)) ?_
      simp only [wx, wy, wz, stV, seval, IntWalk.iteOmega, IntWalk.toNatUp, reduceCtorEq]
      refine st_call (e2) rfl (.inl rfl) ?_
      simp only [wx, wy, wz, stV, seval, IntWalk.iteOmega, IntWalk.toNatUp, reduceCtorEq]
      refine st_call (x1) rfl (.inl rfl) ?_
      simp only [wx, wy, wz, stV, seval, IntWalk.iteOmega, IntWalk.toNatUp, reduceCtorEq]
      refine st_call h1 (by simp only [wx, wy, wz, stV, seval, IntWalk.iteOmega, IntWalk.toNatUp, reduceCtorEq, two_lists]) (.inr (fl_bt _ _ _ _)) ?_
      simp only [wx, wy, wz, stV, seval, IntWalk.iteOmega, IntWalk.toNatUp, reduceCtorEq]
      refine st_call h2 (by simp only [wx, wy, wz, stV, seval, IntWalk.iteOmega, IntWalk.toNatUp, reduceCtorEq, two_lists]) (.inr (fl_bt _ _ _ _)) ?_
      simp only [wx, wy, wz, stV, seval, IntWalk.iteOmega, IntWalk.toNatUp, reduceCtorEq]
      refine st_call (known6_c G) rfl (.inl rfl) ?_
      simp only [wx, wy, wz, stV, seval, IntWalk.iteOmega, IntWalk.toNatUp, reduceCtorEq]
      refine st_call (rsame_c G (opnV key [a0, a1] X') (opnV key [a0, a1] X')) rfl (.inl rfl) ?_
      simp only [wx, wy, wz, stV, seval, IntWalk.iteOmega, IntWalk.toNatUp, reduceCtorEq]
      exact ret_d1 (by simp only [wx, wy, wz, stV, seval, IntWalk.iteOmega, IntWalk.toNatUp, reduceCtorEq])
  · have h1 := po (kk := key') (c0 := a0) (c1 := a1) (xx := X) (by omega) (by omega) (by omega) (by omega)
    have h2 := ro (kk := key') (c0 := a0) (c1 := a1) (xx := X) (by omega) (by omega) (by omega) (by omega)
    rcases two (kk := key') (c0 := a0) (c1 := a1) (xx := X) (by omega) (by omega) (by omega) (by omega) with e | e
    all_goals
      rw [e] at h1 h2
      simp only [sf_arefs, putAll, wx, wy, wz, stV, seval, IntWalk.iteOmega, IntWalk.toNatUp, reduceCtorEq]
      refine st_call (e0) rfl (.inl rfl) ?_
      simp only [wx, wy, wz, stV, seval, IntWalk.iteOmega, IntWalk.toNatUp, reduceCtorEq]
      refine st_call (w0) rfl (.inl rfl) ?_
      simp only [wx, wy, wz, stV, seval, IntWalk.iteOmega, IntWalk.toNatUp, reduceCtorEq]
      refine st_call (e1) rfl (.inl rfl) ?_
      simp only [wx, wy, wz, stV, seval, IntWalk.iteOmega, IntWalk.toNatUp, reduceCtorEq]
      refine st_call (w1) rfl (.inl rfl) ?_
      simp only [wx, wy, wz, stV, seval, IntWalk.iteOmega, IntWalk.toNatUp, reduceCtorEq]
      refine st_call (w2) rfl (.inl rfl) ?_
      simp only [wx, wy, wz, stV, seval, IntWalk.iteOmega, IntWalk.toNatUp, reduceCtorEq]
      refine st_call (w3) rfl (.inl rfl) ?_
      simp only [wx, wy, wz, stV, seval, IntWalk.iteOmega, IntWalk.toNatUp, reduceCtorEq]
      refine st_call hs (by simp only [wx, wy, wz, stV, seval, IntWalk.iteOmega, IntWalk.toNatUp, reduceCtorEq, two_lists]) (.inr (fl_bt _ _ _ _)) ?_
      simp only [wx, wy, wz, stV, seval, IntWalk.iteOmega, IntWalk.toNatUp, reduceCtorEq]
      refine st_call (e2) rfl (.inl rfl) ?_
      simp only [wx, wy, wz, stV, seval, IntWalk.iteOmega, IntWalk.toNatUp, reduceCtorEq]
      refine st_call (x2) rfl (.inl rfl) ?_
      simp only [wx, wy, wz, stV, seval, IntWalk.iteOmega, IntWalk.toNatUp, reduceCtorEq]
      refine st_call h1 (by simp only [wx, wy, wz, stV, seval, IntWalk.iteOmega, IntWalk.toNatUp, reduceCtorEq, two_lists]) (.inr (fl_bt _ _ _ _)) ?_
      simp only [wx, wy, wz, stV, seval, IntWalk.iteOmega, IntWalk.toNatUp, reduceCtorEq]
      refine st_call h2 (by simp only [wx, wy, wz, stV, seval, IntWalk.iteOmega, IntWalk.toNatUp, reduceCtorEq, two_lists]) (.inr (fl_bt _ _ _ _)) ?_
      simp only [wx, wy, wz, stV, seval, IntWalk.iteOmega, IntWalk.toNatUp, reduceCtorEq]
      refine st_call (known6_c G) rfl (.inl rfl) ?_
      simp only [wx, wy, wz, stV, seval, IntWalk.iteOmega, IntWalk.toNatUp, reduceCtorEq]
      refine st_call (rsame_c G (opnV key' [a0, a1] X) (opnV key' [a0, a1] X)) rfl (.inl rfl) ?_
      simp only [wx, wy, wz, stV, seval, IntWalk.iteOmega, IntWalk.toNatUp, reduceCtorEq]
      exact ret_d1 (by simp only [wx, wy, wz, stV, seval, IntWalk.iteOmega, IntWalk.toNatUp, reduceCtorEq])
  · have h1 := po (kk := key) (c0 := a0') (c1 := a1) (xx := X) (by omega) (by omega) (by omega) (by omega)
    have h2 := ro (kk := key) (c0 := a0') (c1 := a1) (xx := X) (by omega) (by omega) (by omega) (by omega)
    rcases two (kk := key) (c0 := a0') (c1 := a1) (xx := X) (by omega) (by omega) (by omega) (by omega) with e | e
    all_goals
      rw [e] at h1 h2
      simp only [sf_arefs, putAll, wx, wy, wz, stV, seval, IntWalk.iteOmega, IntWalk.toNatUp, reduceCtorEq]
      refine st_call (e0) rfl (.inl rfl) ?_
      simp only [wx, wy, wz, stV, seval, IntWalk.iteOmega, IntWalk.toNatUp, reduceCtorEq]
      refine st_call (w0) rfl (.inl rfl) ?_
      simp only [wx, wy, wz, stV, seval, IntWalk.iteOmega, IntWalk.toNatUp, reduceCtorEq]
      refine st_call (e1) rfl (.inl rfl) ?_
      simp only [wx, wy, wz, stV, seval, IntWalk.iteOmega, IntWalk.toNatUp, reduceCtorEq]
      refine st_call (w1) rfl (.inl rfl) ?_
      simp only [wx, wy, wz, stV, seval, IntWalk.iteOmega, IntWalk.toNatUp, reduceCtorEq]
      refine st_call (w2) rfl (.inl rfl) ?_
      simp only [wx, wy, wz, stV, seval, IntWalk.iteOmega, IntWalk.toNatUp, reduceCtorEq]
      refine st_call (w3) rfl (.inl rfl) ?_
      simp only [wx, wy, wz, stV, seval, IntWalk.iteOmega, IntWalk.toNatUp, reduceCtorEq]
      refine st_call hs (by simp only [wx, wy, wz, stV, seval, IntWalk.iteOmega, IntWalk.toNatUp, reduceCtorEq, two_lists]) (.inr (fl_bt _ _ _ _)) ?_
      simp only [wx, wy, wz, stV, seval, IntWalk.iteOmega, IntWalk.toNatUp, reduceCtorEq]
      refine st_call (e2) rfl (.inl rfl) ?_
      simp only [wx, wy, wz, stV, seval, IntWalk.iteOmega, IntWalk.toNatUp, reduceCtorEq]
      refine st_call (x3) rfl (.inl rfl) ?_
      simp only [wx, wy, wz, stV, seval, IntWalk.iteOmega, IntWalk.toNatUp, reduceCtorEq]
      refine st_call h1 (by simp only [wx, wy, wz, stV, seval, IntWalk.iteOmega, IntWalk.toNatUp, reduceCtorEq, two_lists]) (.inr (fl_bt _ _ _ _)) ?_
      simp only [wx, wy, wz, stV, seval, IntWalk.iteOmega, IntWalk.toNatUp, reduceCtorEq]
      refine st_call h2 (by simp only [wx, wy, wz, stV, seval, IntWalk.iteOmega, IntWalk.toNatUp, reduceCtorEq, two_lists]) (.inr (fl_bt _ _ _ _)) ?_
      simp only [wx, wy, wz, stV, seval, IntWalk.iteOmega, IntWalk.toNatUp, reduceCtorEq]
      refine st_call (known6_c G) rfl (.inl rfl) ?_
      simp only [wx, wy, wz, stV, seval, IntWalk.iteOmega, IntWalk.toNatUp, reduceCtorEq]
      refine st_call (rsame_c G (opnV key [a0', a1] X) (opnV key [a0', a1] X)) rfl (.inl rfl) ?_
      simp only [wx, wy, wz, stV, seval, IntWalk.iteOmega, IntWalk.toNatUp, reduceCtorEq]
      exact ret_d1 (by simp only [wx, wy, wz, stV, seval, IntWalk.iteOmega, IntWalk.toNatUp, reduceCtorEq])
  · have h1 := po (kk := key) (c0 := a1) (c1 := a0) (xx := X) (by omega) (by omega) (by omega) (by omega)
    have h2 := ro (kk := key) (c0 := a1) (c1 := a0) (xx := X) (by omega) (by omega) (by omega) (by omega)
    rcases two (kk := key) (c0 := a1) (c1 := a0) (xx := X) (by omega) (by omega) (by omega) (by omega) with e | e
    all_goals
      rw [e] at h1 h2
      simp only [sf_arefs, putAll, wx, wy, wz, stV, seval, IntWalk.iteOmega, IntWalk.toNatUp, reduceCtorEq]
      refine st_call (e0) rfl (.inl rfl) ?_
      simp only [wx, wy, wz, stV, seval, IntWalk.iteOmega, IntWalk.toNatUp, reduceCtorEq]
      refine st_call (w0) rfl (.inl rfl) ?_
      simp only [wx, wy, wz, stV, seval, IntWalk.iteOmega, IntWalk.toNatUp, reduceCtorEq]
      refine st_call (e1) rfl (.inl rfl) ?_
      simp only [wx, wy, wz, stV, seval, IntWalk.iteOmega, IntWalk.toNatUp, reduceCtorEq]
      refine st_call (w1) rfl (.inl rfl) ?_
      simp only [wx, wy, wz, stV, seval, IntWalk.iteOmega, IntWalk.toNatUp, reduceCtorEq]
      refine st_call (w2) rfl (.inl rfl) ?_
      simp only [wx, wy, wz, stV, seval, IntWalk.iteOmega, IntWalk.toNatUp, reduceCtorEq]
      refine st_call (w3) rfl (.inl rfl) ?_
      simp only [wx, wy, wz, stV, seval, IntWalk.iteOmega, IntWalk.toNatUp, reduceCtorEq]
      refine st_call hs (by simp only [wx, wy, wz, stV, seval, IntWalk.iteOmega, IntWalk.toNatUp, reduceCtorEq, two_lists]) (.inr (fl_bt _ _ _ _)) ?_
      simp only [wx, wy, wz, stV, seval, IntWalk.iteOmega, IntWalk.toNatUp, reduceCtorEq]
      refine st_call (e2) rfl (.inl rfl) ?_
      simp only [wx, wy, wz, stV, seval, IntWalk.iteOmega, IntWalk.toNatUp, reduceCtorEq]
      refine st_call h1 (by simp only [wx, wy, wz, stV, seval, IntWalk.iteOmega, IntWalk.toNatUp, reduceCtorEq, two_lists]) (.inr (fl_bt _ _ _ _)) ?_
      simp only [wx, wy, wz, stV, seval, IntWalk.iteOmega, IntWalk.toNatUp, reduceCtorEq]
      refine st_call h2 (by simp only [wx, wy, wz, stV, seval, IntWalk.iteOmega, IntWalk.toNatUp, reduceCtorEq, two_lists]) (.inr (fl_bt _ _ _ _)) ?_
      simp only [wx, wy, wz, stV, seval, IntWalk.iteOmega, IntWalk.toNatUp, reduceCtorEq]
      refine st_call (known6_c G) rfl (.inl rfl) ?_
      simp only [wx, wy, wz, stV, seval, IntWalk.iteOmega, IntWalk.toNatUp, reduceCtorEq]
      refine st_call (rsame_c G (opnV key [a1, a0] X) (opnV key [a1, a0] X)) rfl (.inl rfl) ?_
      simp only [wx, wy, wz, stV, seval, IntWalk.iteOmega, IntWalk.toNatUp, reduceCtorEq]
      exact ret_d1 (by simp only [wx, wy, wz, stV, seval, IntWalk.iteOmega, IntWalk.toNatUp, reduceCtorEq])
end Go.Proofs.Ytipjekggnanffaa
