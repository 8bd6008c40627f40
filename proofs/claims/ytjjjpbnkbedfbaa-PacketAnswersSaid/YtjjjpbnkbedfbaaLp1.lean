/- The laws of layer 16. Own work. -/
import Derived.Test.YtjjjpbnkbedfbaaAlV
import Derived.Test.YtjjjpbnkbedfbaaLp0
set_option linter.unusedVariables false
set_option linter.unusedSimpArgs false
namespace Go.Proofs.Ytjjjpbnkbedfbaa
open Go.RowKit

theorem hdG_fit {l : List UInt8} (h : 48 ≤ l.length) : hdF (hdG l) := by
  have q : ∀ a, a + 4 ≤ 48 → getN (cutN l a 4) < 4294967296 := fun a ha => (getN_lt_pow 4 (cutN l a 4) (cutN_len (by omega)) (by decide)).1
  exact ⟨q 4 (by decide), q 8 (by decide), q 12 (by decide), getN_lt _, getN_lt _, getN_lt _, getN_lt _⟩
def sf_pact16 : SFn := ⟨5, 127,
  .seq (.reg [⟨(some 5), .box .roBox (.t 0), none⟩,
    ⟨(some 10), .mv (.k (.c (.d (.bool false)))), none⟩])
  (.seq (.seq (.reg [⟨(some 25), .mv (.t 1), none⟩,
    ⟨(some 26), .len (.t 25), none⟩,
    ⟨(some 27), .bin .gtr (.t 26) (.k (.c (.d (.int .i64 200)))), none⟩,
    ⟨(some 28), .mv (.t 27), none⟩,
    ⟨(some 29), .mv (.t 1), (some (28, true))⟩,
    ⟨(some 30), .len (.t 29), (some (28, true))⟩,
    ⟨(some 31), .bin .leq (.t 30) (.k (.c (.d (.int .i64 1280)))), (some (28, true))⟩,
    ⟨(some 32), .pick (.t 28) (.t 31) (.k (.c (.d (.bool false)))), none⟩,
    ⟨(some 33), .mv (.t 32), none⟩,
    ⟨(some 34), .mv (.t 1), (some (33, false))⟩,
    ⟨(some 35), .len (.t 34), (some (33, false))⟩,
    ⟨(some 36), .bin .gtr (.t 35) (.k (.c (.d (.int .i64 1500)))), (some (33, false))⟩,
    ⟨(some 37), .pick (.t 33) (.k (.c (.d (.bool true)))) (.t 36), none⟩])
  (.cond (.t 37) (.seq (.reg [⟨(some 38), .call 6 [] none, none⟩,
     ⟨(some 10), .mv (.t 38), none⟩])
   (.ret))
   (.skip)))
  (.seq (.reg [⟨(some 40), .load (.ag 13) (.t 5), none⟩,
    ⟨(some 41), .call 7 [(.t 40)] none, none⟩,
    ⟨(some 39), .mv (.t 41), none⟩,
    ⟨(some 42), .extract (.t 39) 0, none⟩,
    ⟨(some 43), .extract (.t 39) 1, none⟩,
    ⟨(some 11), .mv (.t 42), none⟩,
    ⟨(some 12), .mv (.t 43), none⟩])
  (.seq (.reg [⟨(some 45), .load (.ag 13) (.t 5), none⟩,
    ⟨(some 46), .call 8 [(.t 45)] none, none⟩,
    ⟨(some 44), .mv (.t 46), none⟩,
    ⟨(some 47), .extract (.t 44) 0, none⟩,
    ⟨(some 48), .extract (.t 44) 1, none⟩,
    ⟨(some 13), .mv (.t 47), none⟩,
    ⟨(some 14), .mv (.t 48), none⟩])
  (.seq (.reg [⟨(some 50), .mv (.t 1), none⟩,
    ⟨(some 51), .call 9 [(.t 50)] none, none⟩,
    ⟨(some 49), .mv (.t 51), none⟩,
    ⟨(some 52), .extract (.t 49) 0, none⟩,
    ⟨(some 53), .extract (.t 49) 1, none⟩,
    ⟨(some 54), .extract (.t 49) 2, none⟩,
    ⟨(some 15), .alloc [(.d (.int .i64 0)), (.d (.int .i64 0)), (.d (.int .i64 0)), (.d (.int .i64 0)), (.d (.int .i64 0)), (.d (.int .i64 0)), (.d (.int .u32 0)), (.d (.int .u32 0)), (.d (.int .u32 0)), (.d (.int .u64 0)), (.d (.int .u64 0)), (.d (.int .u64 0)), (.d (.int .u64 0))], none⟩,
    ⟨none, .store (.ag 13) (.t 15) (.t 52), none⟩,
    ⟨(some 16), .mv (.t 53), none⟩,
    ⟨(some 17), .mv (.t 54), none⟩])
  (.seq (.reg [⟨(some 56), .mv (.t 1), none⟩,
    ⟨(some 57), .call 10 [(.t 56)] none, none⟩,
    ⟨(some 55), .mv (.t 57), none⟩,
    ⟨(some 58), .extract (.t 55) 0, none⟩,
    ⟨(some 59), .extract (.t 55) 1, none⟩,
    ⟨(some 60), .extract (.t 55) 2, none⟩,
    ⟨(some 18), .alloc [(.d (.int .i64 0)), (.d (.int .i64 0)), (.d (.int .i64 0)), (.d (.int .i64 0)), (.d (.int .i64 0)), (.d (.int .i64 0)), (.d (.int .u32 0)), (.d (.int .u32 0)), (.d (.int .u32 0)), (.d (.int .u64 0)), (.d (.int .u64 0)), (.d (.int .u64 0)), (.d (.int .u64 0))], none⟩,
    ⟨none, .store (.ag 13) (.t 18) (.t 58), none⟩,
    ⟨(some 19), .mv (.t 59), none⟩,
    ⟨(some 20), .mv (.t 60), none⟩])
  (.seq (.reg [⟨(some 62), .load (.ag 13) (.t 5), none⟩,
    ⟨(some 63), .mv (.t 2), none⟩,
    ⟨(some 64), .mv (.t 3), none⟩,
    ⟨(some 65), .mv (.t 4), none⟩,
    ⟨(some 66), .call 11 [(.t 62), (.t 63), (.t 64), (.t 65)] none, none⟩,
    ⟨(some 61), .mv (.t 66), none⟩,
    ⟨(some 67), .extract (.t 61) 0, none⟩,
    ⟨(some 68), .extract (.t 61) 1, none⟩,
    ⟨(some 21), .alloc [(.d (.int .i64 0)), (.d (.int .i64 0)), (.d (.int .i64 0)), (.d (.int .i64 0)), (.d (.int .i64 0)), (.d (.int .i64 0)), (.d (.int .u32 0)), (.d (.int .u32 0)), (.d (.int .u32 0)), (.d (.int .u64 0)), (.d (.int .u64 0)), (.d (.int .u64 0)), (.d (.int .u64 0))], none⟩,
    ⟨none, .store (.ag 13) (.t 21) (.t 67), none⟩,
    ⟨(some 22), .mv (.t 68), none⟩])
  (.seq (.reg [⟨(some 70), .load (.ag 13) (.t 5), none⟩,
    ⟨(some 71), .mv (.t 2), none⟩,
    ⟨(some 72), .mv (.t 3), none⟩,
    ⟨(some 73), .mv (.t 4), none⟩,
    ⟨(some 74), .call 12 [(.t 70), (.t 71), (.t 72), (.t 73)] none, none⟩,
    ⟨(some 69), .mv (.t 74), none⟩,
    ⟨(some 75), .extract (.t 69) 0, none⟩,
    ⟨(some 76), .extract (.t 69) 1, none⟩,
    ⟨(some 23), .alloc [(.d (.int .i64 0)), (.d (.int .i64 0)), (.d (.int .i64 0)), (.d (.int .i64 0)), (.d (.int .i64 0)), (.d (.int .i64 0)), (.d (.int .u32 0)), (.d (.int .u32 0)), (.d (.int .u32 0)), (.d (.int .u64 0)), (.d (.int .u64 0)), (.d (.int .u64 0)), (.d (.int .u64 0))], none⟩,
    ⟨none, .store (.ag 13) (.t 23) (.t 75), none⟩,
    ⟨(some 24), .mv (.t 76), none⟩])
  (.seq (.reg [⟨(some 77), .call 6 [] none, none⟩,
    ⟨(some 78), .mv (.t 77), none⟩,
    ⟨(some 79), .load (.ag 13) (.t 5), (some (78, true))⟩,
    ⟨(some 80), .call 13 [(.t 79)] none, (some (78, true))⟩,
    ⟨(some 81), .load (.ag 13) (.t 5), (some (78, true))⟩,
    ⟨(some 82), .call 14 [(.t 81)] none, (some (78, true))⟩,
    ⟨(some 83), .bin .eql (.t 80) (.t 82), (some (78, true))⟩,
    ⟨(some 84), .pick (.t 78) (.t 83) (.k (.c (.d (.bool false)))), none⟩,
    ⟨(some 85), .mv (.t 84), none⟩,
    ⟨(some 86), .mv (.t 12), (some (85, true))⟩,
    ⟨(some 87), .mv (.t 14), (some (85, true))⟩,
    ⟨(some 88), .bin .eql (.t 86) (.t 87), (some (85, true))⟩,
    ⟨(some 89), .pick (.t 85) (.t 88) (.k (.c (.d (.bool false)))), none⟩,
    ⟨(some 90), .mv (.t 89), none⟩,
    ⟨(some 91), .mv (.t 11), (some (90, true))⟩,
    ⟨(some 92), .mv (.t 13), (some (90, true))⟩,
    ⟨(some 93), .call 15 [(.t 91), (.t 92)] none, (some (90, true))⟩,
    ⟨(some 94), .pick (.t 90) (.t 93) (.k (.c (.d (.bool false)))), none⟩,
    ⟨(some 95), .mv (.t 94), none⟩,
    ⟨(some 96), .mv (.t 17), (some (95, true))⟩,
    ⟨(some 97), .mv (.t 20), (some (95, true))⟩,
    ⟨(some 98), .bin .eql (.t 96) (.t 97), (some (95, true))⟩,
    ⟨(some 99), .pick (.t 95) (.t 98) (.k (.c (.d (.bool false)))), none⟩,
    ⟨(some 100), .mv (.t 99), none⟩,
    ⟨(some 101), .load (.ag 13) (.t 15), (some (100, true))⟩,
    ⟨(some 102), .load (.ag 13) (.t 18), (some (100, true))⟩,
    ⟨(some 103), .eqA false [0, 0, 0, 0, 0, 0, 0, 0, 0, 0, 0, 0, 0] (.t 101) (.t 102), (some (100, true))⟩,
    ⟨(some 104), .pick (.t 100) (.t 103) (.k (.c (.d (.bool false)))), none⟩,
    ⟨(some 105), .mv (.t 104), none⟩,
    ⟨(some 106), .mv (.t 16), (some (105, true))⟩,
    ⟨(some 107), .mv (.t 19), (some (105, true))⟩,
    ⟨(some 108), .call 15 [(.t 106), (.t 107)] none, (some (105, true))⟩,
    ⟨(some 109), .pick (.t 105) (.t 108) (.k (.c (.d (.bool false)))), none⟩,
    ⟨(some 110), .mv (.t 109), none⟩,
    ⟨(some 111), .mv (.t 4), (some (110, true))⟩,
    ⟨(some 112), .call 16 [(.t 111)] none, (some (110, true))⟩,
    ⟨(some 113), .mv (.t 4), (some (110, true))⟩,
    ⟨(some 114), .call 17 [(.t 113)] none, (some (110, true))⟩,
    ⟨(some 115), .eqA false [0, 0, 0, 0, 0, 0, 0, 0, 0, 0, 0, 0, 0] (.t 112) (.t 114), (some (110, true))⟩,
    ⟨(some 116), .pick (.t 110) (.t 115) (.k (.c (.d (.bool false)))), none⟩,
    ⟨(some 117), .mv (.t 116), none⟩,
    ⟨(some 118), .mv (.t 22), (some (117, true))⟩,
    ⟨(some 119), .mv (.t 24), (some (117, true))⟩,
    ⟨(some 120), .bin .eql (.t 118) (.t 119), (some (117, true))⟩,
    ⟨(some 121), .pick (.t 117) (.t 120) (.k (.c (.d (.bool false)))), none⟩,
    ⟨(some 122), .mv (.t 121), none⟩,
    ⟨(some 123), .load (.ag 13) (.t 21), (some (122, true))⟩,
    ⟨(some 124), .load (.ag 13) (.t 23), (some (122, true))⟩,
    ⟨(some 125), .eqA false [0, 0, 0, 0, 0, 0, 0, 0, 0, 0, 0, 0, 0] (.t 123) (.t 124), (some (122, true))⟩,
    ⟨(some 126), .pick (.t 122) (.t 125) (.k (.c (.d (.bool false)))), none⟩,
    ⟨(some 10), .mv (.t 126), none⟩])
  (.ret))))))))),
  [(10, none)]⟩
theorem cf_pact16 : compFn Try.prog { own := [], comp := [], frz := [], nils := [] } Try.f3 = some sf_pact16 := by kernel_rfl
set_option maxHeartbeats 1600000 in
theorem pact16_c (G : Glob) (h0 : Int) (hh01 : -9223372036854775808 ≤ h0) (hh02 : h0 ≤ 9223372036854775807) (h1 : Int) (hh11 : -9223372036854775808 ≤ h1) (hh12 : h1 ≤ 9223372036854775807) (h2 : Int) (hh21 : -9223372036854775808 ≤ h2) (hh22 : h2 ≤ 9223372036854775807) (h3 : Int) (hh31 : -9223372036854775808 ≤ h3) (hh32 : h3 ≤ 9223372036854775807) (h4 : Int) (hh41 : -9223372036854775808 ≤ h4) (hh42 : h4 ≤ 9223372036854775807) (h5 : Int) (hh51 : -9223372036854775808 ≤ h5) (hh52 : h5 ≤ 9223372036854775807) (h6 : UInt32) (h7 : UInt32) (h8 : UInt32) (h9 : Nat) (hh9 : h9 < 18446744073709551616) (h10 : Nat) (hh10 : h10 < 18446744073709551616) (h11 : Nat) (hh11 : h11 < 18446744073709551616) (h12 : Nat) (hh12 : h12 < 18446744073709551616) (b : List UInt8) (hb : b.length ≤ maxLen) (st : Int) (hst1 : -9223372036854775808 ≤ st) (hst2 : st ≤ 9223372036854775807) (rc : Nat) (hrc : rc < 18446744073709551616) (tr : Nat) (htr : tr < 18446744073709551616)  : Den Try.prog G 3 [.agg [.int .i64 h0, .int .i64 h1, .int .i64 h2, .int .i64 h3, .int .i64 h4, .int .i64 h5, wD h6, wD h7, wD h8, .int .u64 (h9 : Int), .int .u64 (h10 : Int), .int .u64 (h11 : Int), .int .u64 (h12 : Int)], .sl (b.map bD), .int .i64 st, .int .u64 (rc : Int), .int .u64 (tr : Int)] (.w (.c (.d (.bool true)))) := by
  refine den_walk Try.func3 cf_pact16 rfl rfl ?_
  unfold maxLen at hb
  by_cases g1 : (b.length : Int) > 200 ∧ (b.length : Int) ≤ 1280
  · obtain ⟨g1, g2⟩ := g1
    simp only [sf_pact16, putAll, wx, wy, wz, stV, seval, IntWalk.iteOmega, IntWalk.toNatUp, reduceCtorEq]
    refine st_call (known16_c G) rfl (.inl rfl) ?_
    simp only [wx, wy, wz, stV, seval, IntWalk.iteOmega, IntWalk.toNatUp, reduceCtorEq]
    exact ret_d1 (by simp only [wx, wy, wz, stV, seval, IntWalk.iteOmega, IntWalk.toNatUp, reduceCtorEq])
  by_cases g2 : (b.length : Int) > 1500
  · have g3 : ¬ (b.length : Int) ≤ 1280 := by omega
    simp only [sf_pact16, putAll, wx, wy, wz, stV, seval, IntWalk.iteOmega, IntWalk.toNatUp, reduceCtorEq]
    refine st_call (known16_c G) rfl (.inl rfl) ?_
    simp only [wx, wy, wz, stV, seval, IntWalk.iteOmega, IntWalk.toNatUp, reduceCtorEq]
    exact ret_d1 (by simp only [wx, wy, wz, stV, seval, IntWalk.iteOmega, IntWalk.toNatUp, reduceCtorEq])
  have w6 := h6.toNat_lt
  have w7 := h7.toNat_lt
  have w8 := h8.toNat_lt
  obtain ⟨H, hH⟩ : ∃ H : Hd, H = ⟨h0, h1, h2, h3, h4, h5, h6.toNat, h7.toNat, h8.toNat, h9, h10, h11, h12⟩ := ⟨_, rfl⟩
  have hF : hdF H := by rw [hH]; exact ⟨w6, w7, w8, by assumption, by assumption, by assumption, by assumption⟩
  have c1 := penc_c G H hF
  have c2 := renc_c G H hF
  have c3 := pdec_c G b (by omega)
  have c4 := rdec_c G b (by omega)
  have c5 := prep_c G H st rc tr
  have c6 := rrep_c G H st rc tr
  have c7 := pval_c G H
  have c8 := rpvl_c G H
  have c9 := rsame_c G (encB H) (encB H)
  have cA := rsame_c G (decR b) (decR b)
  have cB := pask_c G tr
  have cC := rask_c G tr
  rw [beq_self_eq_true] at c9 cA
  have hHD : hdD H = .agg [.int .i64 h0, .int .i64 h1, .int .i64 h2, .int .i64 h3, .int .i64 h4, .int .i64 h5, wD h6, wD h7, wD h8, .int .u64 (h9 : Int), .int .u64 (h10 : Int), .int .u64 (h11 : Int), .int .u64 (h12 : Int)] := by rw [hH]; rfl
  generalize repH H st rc tr = R at *
  generalize repE H st = RE at *
  generalize encB H = E at *
  generalize hdE H = HE at *
  generalize decR b = DR at *
  generalize decE b = DE at *
  generalize decH b = K at *
  generalize askH tr = A at *
  rw [hHD] at c1 c2 c5 c6 c7 c8
  generalize wD h6 = W6 at *
  generalize wD h7 = W7 at *
  generalize wD h8 = W8 at *
  clear hH hHD hF
  unfold hdD at *
  by_cases g3 : (b.length : Int) > 200
  · have g4 : ¬ (b.length : Int) ≤ 1280 := fun k => g1 ⟨g3, k⟩
    simp only [sf_pact16, putAll, wx, wy, wz, stV, seval, IntWalk.iteOmega, IntWalk.toNatUp, reduceCtorEq]
    refine st_call (c1) rfl (.inl rfl) ?_
    simp only [wx, wy, wz, stV, seval, IntWalk.iteOmega, IntWalk.toNatUp, reduceCtorEq]
    refine st_call (c2) rfl (.inl rfl) ?_
    simp only [wx, wy, wz, stV, seval, IntWalk.iteOmega, IntWalk.toNatUp, reduceCtorEq]
    refine st_call (c3) rfl (.inl rfl) ?_
    simp only [wx, wy, wz, stV, seval, IntWalk.iteOmega, IntWalk.toNatUp, reduceCtorEq]
    refine st_call (c4) rfl (.inl rfl) ?_
    simp only [wx, wy, wz, stV, seval, IntWalk.iteOmega, IntWalk.toNatUp, reduceCtorEq]
    refine st_call (c5) rfl (.inl rfl) ?_
    simp only [wx, wy, wz, stV, seval, IntWalk.iteOmega, IntWalk.toNatUp, reduceCtorEq]
    refine st_call (c6) rfl (.inl rfl) ?_
    simp only [wx, wy, wz, stV, seval, IntWalk.iteOmega, IntWalk.toNatUp, reduceCtorEq]
    refine st_call (known16_c G) rfl (.inl rfl) ?_
    simp only [wx, wy, wz, stV, seval, IntWalk.iteOmega, IntWalk.toNatUp, reduceCtorEq]
    refine st_call (c7) rfl (.inl rfl) ?_
    simp only [wx, wy, wz, stV, seval, IntWalk.iteOmega, IntWalk.toNatUp, reduceCtorEq]
    refine st_call (c8) rfl (.inl rfl) ?_
    simp only [wx, wy, wz, stV, seval, IntWalk.iteOmega, IntWalk.toNatUp, reduceCtorEq]
    refine st_call (c9) rfl (.inl rfl) ?_
    simp only [wx, wy, wz, stV, seval, IntWalk.iteOmega, IntWalk.toNatUp, reduceCtorEq]
    refine st_call (cA) rfl (.inl rfl) ?_
    simp only [wx, wy, wz, stV, seval, IntWalk.iteOmega, IntWalk.toNatUp, reduceCtorEq]
    refine st_call (cB) rfl (.inl rfl) ?_
    simp only [wx, wy, wz, stV, seval, IntWalk.iteOmega, IntWalk.toNatUp, reduceCtorEq]
    refine st_call (cC) rfl (.inl rfl) ?_
    simp only [wx, wy, wz, stV, seval, IntWalk.iteOmega, IntWalk.toNatUp, reduceCtorEq]
    exact ret_d1 (by simp only [wx, wy, wz, stV, seval, IntWalk.iteOmega, IntWalk.toNatUp, reduceCtorEq])
  · clear g1
    simp only [sf_pact16, putAll, wx, wy, wz, stV, seval, IntWalk.iteOmega, IntWalk.toNatUp, reduceCtorEq]
    refine st_call (c1) rfl (.inl rfl) ?_
    simp only [wx, wy, wz, stV, seval, IntWalk.iteOmega, IntWalk.toNatUp, reduceCtorEq]
    refine st_call (c2) rfl (.inl rfl) ?_
    simp only [wx, wy, wz, stV, seval, IntWalk.iteOmega, IntWalk.toNatUp, reduceCtorEq]
    refine st_call (c3) rfl (.inl rfl) ?_
    simp only [wx, wy, wz, stV, seval, IntWalk.iteOmega, IntWalk.toNatUp, reduceCtorEq]
    refine st_call (c4) rfl (.inl rfl) ?_
    simp only [wx, wy, wz, stV, seval, IntWalk.iteOmega, IntWalk.toNatUp, reduceCtorEq]
    refine st_call (c5) rfl (.inl rfl) ?_
    simp only [wx, wy, wz, stV, seval, IntWalk.iteOmega, IntWalk.toNatUp, reduceCtorEq]
    refine st_call (c6) rfl (.inl rfl) ?_
    simp only [wx, wy, wz, stV, seval, IntWalk.iteOmega, IntWalk.toNatUp, reduceCtorEq]
    refine st_call (known16_c G) rfl (.inl rfl) ?_
    simp only [wx, wy, wz, stV, seval, IntWalk.iteOmega, IntWalk.toNatUp, reduceCtorEq]
    refine st_call (c7) rfl (.inl rfl) ?_
    simp only [wx, wy, wz, stV, seval, IntWalk.iteOmega, IntWalk.toNatUp, reduceCtorEq]
    refine st_call (c8) rfl (.inl rfl) ?_
    simp only [wx, wy, wz, stV, seval, IntWalk.iteOmega, IntWalk.toNatUp, reduceCtorEq]
    refine st_call (c9) rfl (.inl rfl) ?_
    simp only [wx, wy, wz, stV, seval, IntWalk.iteOmega, IntWalk.toNatUp, reduceCtorEq]
    refine st_call (cA) rfl (.inl rfl) ?_
    simp only [wx, wy, wz, stV, seval, IntWalk.iteOmega, IntWalk.toNatUp, reduceCtorEq]
    refine st_call (cB) rfl (.inl rfl) ?_
    simp only [wx, wy, wz, stV, seval, IntWalk.iteOmega, IntWalk.toNatUp, reduceCtorEq]
    refine st_call (cC) rfl (.inl rfl) ?_
    simp only [wx, wy, wz, stV, seval, IntWalk.iteOmega, IntWalk.toNatUp, reduceCtorEq]
    exact ret_d1 (by simp only [wx, wy, wz, stV, seval, IntWalk.iteOmega, IntWalk.toNatUp, reduceCtorEq])
def sf_prdb16 : SFn := ⟨3, 87,
  .seq (.reg [⟨(some 3), .box .roBox (.t 0), none⟩,
    ⟨(some 6), .mv (.k (.c (.d (.bool false)))), none⟩])
  (.seq (.seq (.reg [⟨(some 17), .mv (.t 1), none⟩,
    ⟨(some 18), .len (.t 17), none⟩,
    ⟨(some 19), .bin .gtr (.t 18) (.k (.c (.d (.int .i64 100)))), none⟩,
    ⟨(some 20), .mv (.t 19), none⟩,
    ⟨(some 21), .mv (.t 2), (some (20, false))⟩,
    ⟨(some 22), .len (.t 21), (some (20, false))⟩,
    ⟨(some 23), .bin .gtr (.t 22) (.k (.c (.d (.int .i64 200)))), (some (20, false))⟩,
    ⟨(some 24), .pick (.t 20) (.k (.c (.d (.bool true)))) (.t 23), none⟩])
  (.cond (.t 24) (.seq (.reg [⟨(some 25), .call 6 [] none, none⟩,
     ⟨(some 6), .mv (.t 25), none⟩])
   (.ret))
   (.skip)))
  (.seq (.seq (.reg [⟨(some 27), .load (.ag 13) (.t 3), none⟩,
    ⟨(some 28), .call 7 [(.t 27)] none, none⟩,
    ⟨(some 26), .mv (.t 28), none⟩,
    ⟨(some 29), .extract (.t 26) 0, none⟩,
    ⟨(some 30), .extract (.t 26) 1, none⟩,
    ⟨(some 7), .mv (.t 29), none⟩,
    ⟨(some 8), .mv (.t 30), none⟩])
  (.seq (.reg [⟨(some 31), .mv (.t 8), none⟩,
    ⟨(some 32), .bin .eql (.t 31) (.k (.c (.d (.int .i64 0)))), none⟩])
  (.cond (.t 32) (.seq (.reg [⟨(some 34), .mv (.t 7), none⟩,
     ⟨(some 35), .mv (.t 1), none⟩,
     ⟨(some 36), .bldSl false 2 1 (.sl []) [(0, (.t 34)), (1, (.t 35))], none⟩,
     ⟨(some 37), .call 18 [(.t 36)] none, none⟩,
     ⟨(some 38), .call 9 [(.t 37)] none, none⟩,
     ⟨(some 33), .mv (.t 38), none⟩,
     ⟨(some 39), .extract (.t 33) 0, none⟩,
     ⟨(some 40), .extract (.t 33) 1, none⟩,
     ⟨(some 41), .extract (.t 33) 2, none⟩,
     ⟨(some 9), .alloc [(.d (.int .i64 0)), (.d (.int .i64 0)), (.d (.int .i64 0)), (.d (.int .i64 0)), (.d (.int .i64 0)), (.d (.int .i64 0)), (.d (.int .u32 0)), (.d (.int .u32 0)), (.d (.int .u32 0)), (.d (.int .u64 0)), (.d (.int .u64 0)), (.d (.int .u64 0)), (.d (.int .u64 0))], none⟩,
     ⟨none, .store (.ag 13) (.t 9) (.t 39), none⟩,
     ⟨(some 10), .mv (.t 40), none⟩,
     ⟨(some 11), .mv (.t 41), none⟩])
   (.seq (.reg [⟨(some 42), .mv (.t 11), none⟩,
     ⟨(some 43), .bin .neq (.t 42) (.k (.c (.d (.int .i64 0)))), none⟩,
     ⟨(some 44), .mv (.t 43), none⟩,
     ⟨(some 45), .load (.ag 13) (.t 9), (some (44, false))⟩,
     ⟨(some 46), .load (.ag 13) (.t 3), (some (44, false))⟩,
     ⟨(some 47), .eqA true [0, 0, 0, 0, 0, 0, 0, 0, 0, 0, 0, 0, 0] (.t 45) (.t 46), (some (44, false))⟩,
     ⟨(some 48), .pick (.t 44) (.k (.c (.d (.bool true)))) (.t 47), none⟩,
     ⟨(some 49), .mv (.t 48), none⟩,
     ⟨(some 50), .mv (.t 10), (some (49, false))⟩,
     ⟨(some 51), .mv (.t 1), (some (49, false))⟩,
     ⟨(some 52), .call 15 [(.t 50), (.t 51)] none, (some (49, false))⟩,
     ⟨(some 53), .un .not (.t 52), (some (49, false))⟩,
     ⟨(some 54), .pick (.t 49) (.k (.c (.d (.bool true)))) (.t 53), none⟩,
     ⟨(some 55), .mv (.t 54), none⟩,
     ⟨(some 56), .mv (.t 7), (some (55, false))⟩,
     ⟨(some 57), .len (.t 56), (some (55, false))⟩,
     ⟨(some 58), .bin .neq (.t 57) (.k (.c (.d (.int .i64 48)))), (some (55, false))⟩,
     ⟨(some 59), .pick (.t 55) (.k (.c (.d (.bool true)))) (.t 58), none⟩])
   (.cond (.t 59) (.seq (.reg [⟨(some 6), .mv (.k (.c (.d (.bool false)))), none⟩])
    (.ret))
    (.skip))))
   (.skip))))
  (.seq (.reg [⟨(some 61), .mv (.t 2), none⟩,
    ⟨(some 62), .call 9 [(.t 61)] none, none⟩,
    ⟨(some 60), .mv (.t 62), none⟩,
    ⟨(some 63), .extract (.t 60) 0, none⟩,
    ⟨(some 64), .extract (.t 60) 1, none⟩,
    ⟨(some 65), .extract (.t 60) 2, none⟩,
    ⟨(some 12), .alloc [(.d (.int .i64 0)), (.d (.int .i64 0)), (.d (.int .i64 0)), (.d (.int .i64 0)), (.d (.int .i64 0)), (.d (.int .i64 0)), (.d (.int .u32 0)), (.d (.int .u32 0)), (.d (.int .u32 0)), (.d (.int .u64 0)), (.d (.int .u64 0)), (.d (.int .u64 0)), (.d (.int .u64 0))], none⟩,
    ⟨none, .store (.ag 13) (.t 12) (.t 63), none⟩,
    ⟨(some 13), .mv (.t 64), none⟩,
    ⟨(some 14), .mv (.t 65), none⟩])
  (.seq (.seq (.reg [⟨(some 66), .mv (.t 14), none⟩,
    ⟨(some 67), .bin .neq (.t 66) (.k (.c (.d (.int .i64 0)))), none⟩])
  (.cond (.t 67) (.seq (.reg [⟨(some 68), .call 6 [] none, none⟩,
     ⟨(some 6), .mv (.t 68), none⟩])
   (.ret))
   (.skip)))
  (.seq (.reg [⟨(some 70), .load (.ag 13) (.t 12), none⟩,
    ⟨(some 71), .call 7 [(.t 70)] none, none⟩,
    ⟨(some 69), .mv (.t 71), none⟩,
    ⟨(some 72), .extract (.t 69) 0, none⟩,
    ⟨(some 73), .extract (.t 69) 1, none⟩,
    ⟨(some 15), .mv (.t 72), none⟩,
    ⟨(some 16), .mv (.t 73), none⟩])
  (.seq (.reg [⟨(some 74), .call 6 [] none, none⟩,
    ⟨(some 75), .mv (.t 74), none⟩,
    ⟨(some 76), .mv (.t 16), (some (75, true))⟩,
    ⟨(some 77), .bin .eql (.t 76) (.k (.c (.d (.int .i64 0)))), (some (75, true))⟩,
    ⟨(some 78), .pick (.t 75) (.t 77) (.k (.c (.d (.bool false)))), none⟩,
    ⟨(some 79), .mv (.t 78), none⟩,
    ⟨(some 80), .mv (.t 15), (some (79, true))⟩,
    ⟨(some 81), .mv (.t 13), (some (79, true))⟩,
    ⟨(some 82), .bldSl false 2 1 (.sl []) [(0, (.t 80)), (1, (.t 81))], (some (79, true))⟩,
    ⟨(some 83), .call 18 [(.t 82)] none, (some (79, true))⟩,
    ⟨(some 84), .mv (.t 2), (some (79, true))⟩,
    ⟨(some 85), .call 15 [(.t 83), (.t 84)] none, (some (79, true))⟩,
    ⟨(some 86), .pick (.t 79) (.t 85) (.k (.c (.d (.bool false)))), none⟩,
    ⟨(some 6), .mv (.t 86), none⟩])
  (.ret))))))),
  [(6, none)]⟩
theorem cf_prdb16 : compFn Try.prog { own := [], comp := [], frz := [], nils := [] } Try.f4 = some sf_prdb16 := by kernel_rfl
set_option maxHeartbeats 1600000 in
theorem prdb16_c (G : Glob) (h0 : Int) (hh01 : -9223372036854775808 ≤ h0) (hh02 : h0 ≤ 9223372036854775807) (h1 : Int) (hh11 : -9223372036854775808 ≤ h1) (hh12 : h1 ≤ 9223372036854775807) (h2 : Int) (hh21 : -9223372036854775808 ≤ h2) (hh22 : h2 ≤ 9223372036854775807) (h3 : Int) (hh31 : -9223372036854775808 ≤ h3) (hh32 : h3 ≤ 9223372036854775807) (h4 : Int) (hh41 : -9223372036854775808 ≤ h4) (hh42 : h4 ≤ 9223372036854775807) (h5 : Int) (hh51 : -9223372036854775808 ≤ h5) (hh52 : h5 ≤ 9223372036854775807) (h6 : UInt32) (h7 : UInt32) (h8 : UInt32) (h9 : Nat) (hh9 : h9 < 18446744073709551616) (h10 : Nat) (hh10 : h10 < 18446744073709551616) (h11 : Nat) (hh11 : h11 < 18446744073709551616) (h12 : Nat) (hh12 : h12 < 18446744073709551616) (rest : List UInt8) (hrest : rest.length ≤ maxLen) (b : List UInt8) (hb : b.length ≤ maxLen)  : Den Try.prog G 4 [.agg [.int .i64 h0, .int .i64 h1, .int .i64 h2, .int .i64 h3, .int .i64 h4, .int .i64 h5, wD h6, wD h7, wD h8, .int .u64 (h9 : Int), .int .u64 (h10 : Int), .int .u64 (h11 : Int), .int .u64 (h12 : Int)], .sl (rest.map bD), .sl (b.map bD)] (.w (.c (.d (.bool true)))) := by
  refine den_walk Try.func4 cf_prdb16 rfl rfl ?_
  unfold maxLen at hb hrest
  by_cases g1 : (rest.length : Int) > 100
  · simp only [sf_prdb16, putAll, wx, wy, wz, stV, seval, IntWalk.iteOmega, IntWalk.toNatUp, reduceCtorEq]
    refine st_call (known16_c G) rfl (.inl rfl) ?_
    simp only [wx, wy, wz, stV, seval, IntWalk.iteOmega, IntWalk.toNatUp, reduceCtorEq]
    exact ret_d1 (by simp only [wx, wy, wz, stV, seval, IntWalk.iteOmega, IntWalk.toNatUp, reduceCtorEq])
  by_cases g2 : (b.length : Int) > 200
  · simp only [sf_prdb16, putAll, wx, wy, wz, stV, seval, IntWalk.iteOmega, IntWalk.toNatUp, reduceCtorEq]
    refine st_call (known16_c G) rfl (.inl rfl) ?_
    simp only [wx, wy, wz, stV, seval, IntWalk.iteOmega, IntWalk.toNatUp, reduceCtorEq]
    exact ret_d1 (by simp only [wx, wy, wz, stV, seval, IntWalk.iteOmega, IntWalk.toNatUp, reduceCtorEq])
  have w6 := h6.toNat_lt
  have w7 := h7.toNat_lt
  have w8 := h8.toNat_lt
  obtain ⟨H, hH⟩ : ∃ H : Hd, H = ⟨h0, h1, h2, h3, h4, h5, h6.toNat, h7.toNat, h8.toNat, h9, h10, h11, h12⟩ := ⟨_, rfl⟩
  have hF : hdF H := by rw [hH]; exact ⟨w6, w7, w8, by assumption, by assumption, by assumption, by assumption⟩
  have hHD : hdD H = .agg [.int .i64 h0, .int .i64 h1, .int .i64 h2, .int .i64 h3, .int .i64 h4, .int .i64 h5, wD h6, wD h7, wD h8, .int .u64 (h9 : Int), .int .u64 (h10 : Int), .int .u64 (h11 : Int), .int .u64 (h12 : Int)] := by rw [hH]; rfl
  clear hH
  have c1 := penc_c G H hF
  -- the second half: what Decode of b says
  have c5 := pdec_c G b (by omega)
  have second : (decE b ≠ 0) ∨ (decE b = 0 ∧ decH b = hdG b ∧ encB (hdG b) = b.take 48 ∧ hdE (hdG b) = 0 ∧ hdF (hdG b) ∧ decR b = b.drop 48 ∧ 48 ≤ b.length) := by
    by_cases k : decE b = 0
    · refine .inr ⟨k, if_pos k, ?_⟩
      have k' := k
      unfold decE at k'
      split at k'
      · cases k'
      · split at k'
        · cases k'
        · split at k'
          · rename_i k1 k2 kv
            have hl : 48 ≤ b.length := by omega
            obtain ⟨r1, r2⟩ := hd_read hl kv
            have ok : hdOk (hdG b) = true := decide_eq_true r1
            exact ⟨by unfold encB; rw [if_pos ok, r2], by unfold hdE; rw [if_pos ok], hdG_fit hl, if_pos k, hl⟩
          · cases k'
    · exact .inl k
  have first : (hdOk H = false ∧ hdE H = 4) ∨ (hdE H = 0 ∧ encB H = hdB H ∧ decE (hdB H ++ rest) = 0 ∧ decH (hdB H ++ rest) = H ∧ decR (hdB H ++ rest) = rest) := by
    cases ok : hdOk H
    · exact .inl ⟨rfl, by unfold hdE; rw [ok]; rfl⟩
    · have hr : hdR H := of_decide_eq_true ok
      have hl := hdB_len H
      have hb' := hd_back hr hF rest
      have k : decE (hdB H ++ rest) = 0 := by
        unfold decE
        rw [if_neg (by rw [List.length_append]; omega), if_neg (by rw [List.length_append]; omega), hb', if_pos hr.2.2.1]
      refine .inr ⟨by unfold hdE; rw [if_pos ok], by unfold encB; rw [if_pos ok], k, ?_, ?_⟩
      · unfold decH; rw [if_pos k, hb']
      · unfold decR; rw [if_pos k, ← hl, List.drop_left]
  have cS := rsame_c G rest rest
  rw [beq_self_eq_true] at cS
  have lenB := hdB_len H
  rcases first with ⟨_, f2⟩ | ⟨f2, f3, f4, f5, f6⟩
  · rw [f2, hHD] at c1
    generalize encB H = B at *
    generalize wD h6 = W6 at *
    generalize wD h7 = W7 at *
    generalize wD h8 = W8 at *
    clear hHD hF f2 cS lenB
    rcases second with e1 | ⟨e1, e2, e3, e4, e5, e6, e7⟩
    · generalize decH b = K at *
      generalize decR b = R at *
      generalize decE b = DE at *
      unfold hdD at c5
      simp only [sf_prdb16, putAll, wx, wy, wz, stV, seval, IntWalk.iteOmega, IntWalk.toNatUp, reduceCtorEq]
      refine st_call (c1) rfl (.inl rfl) ?_
      simp only [wx, wy, wz, stV, seval, IntWalk.iteOmega, IntWalk.toNatUp, reduceCtorEq]
      refine st_call (c5) rfl (.inl rfl) ?_
      simp only [wx, wy, wz, stV, seval, IntWalk.iteOmega, IntWalk.toNatUp, reduceCtorEq]
      refine st_call (known16_c G) rfl (.inl rfl) ?_
      simp only [wx, wy, wz, stV, seval, IntWalk.iteOmega, IntWalk.toNatUp, reduceCtorEq]
      exact ret_d1 (by simp only [wx, wy, wz, stV, seval, IntWalk.iteOmega, IntWalk.toNatUp, reduceCtorEq])
    · rw [e1, e2, e6] at c5
      have c6 := penc_c G (hdG b) e5
      rw [e3, e4] at c6
      have c7 := rjoin_c G [b.take 48, b.drop 48] (by simp) (by simp; omega)
      rw [show [b.take 48, b.drop 48].flatten = b by simp] at c7
      have c8 := rsame_c G b b
      rw [beq_self_eq_true] at c8
      generalize b.take 48 = B1 at *
      generalize b.drop 48 = B2 at *
      generalize hdG b = K at *
      simp only [List.map_cons, List.map_nil] at c7
      clear e1 e2 e3 e4 e5 e6
      unfold hdD at c5 c6
      simp only [sf_prdb16, putAll, wx, wy, wz, stV, seval, IntWalk.iteOmega, IntWalk.toNatUp, reduceCtorEq]
      refine st_call (c1) rfl (.inl rfl) ?_
      simp only [wx, wy, wz, stV, seval, IntWalk.iteOmega, IntWalk.toNatUp, reduceCtorEq]
      refine st_call (c5) rfl (.inl rfl) ?_
      simp only [wx, wy, wz, stV, seval, IntWalk.iteOmega, IntWalk.toNatUp, reduceCtorEq]
      refine st_call (c6) rfl (.inl rfl) ?_
      simp only [wx, wy, wz, stV, seval, IntWalk.iteOmega, IntWalk.toNatUp, reduceCtorEq]
      refine st_call (known16_c G) rfl (.inl rfl) ?_
      simp only [wx, wy, wz, stV, seval, IntWalk.iteOmega, IntWalk.toNatUp, reduceCtorEq]
      refine st_call (c7) rfl (.inl rfl) ?_
      simp only [wx, wy, wz, stV, seval, IntWalk.iteOmega, IntWalk.toNatUp, reduceCtorEq]
      refine st_call (c8) rfl (.inl rfl) ?_
      simp only [wx, wy, wz, stV, seval, IntWalk.iteOmega, IntWalk.toNatUp, reduceCtorEq]
      exact ret_d1 (by simp only [wx, wy, wz, stV, seval, IntWalk.iteOmega, IntWalk.toNatUp, reduceCtorEq])
  · have c2 := rjoin_c G [hdB H, rest] (by simp) (by simp [lenB]; omega)
    rw [show [hdB H, rest].flatten = hdB H ++ rest by simp] at c2
    have c3 := pdec_c G (hdB H ++ rest) (by rw [List.length_append]; omega)
    rw [f4, f5, f6, hHD] at c3
    rw [f2, f3, hHD] at c1
    simp only [List.map_cons, List.map_nil] at c2
    clear hHD hF f2 f3 f4 f5 f6
    generalize hdB H ++ rest = X at *
    generalize hdB H = B at *
    generalize hW6 : wD h6 = W6 at *
    generalize hW7 : wD h7 = W7 at *
    generalize hW8 : wD h8 = W8 at *
    unfold wD at hW6 hW7 hW8
    subst hW6 hW7 hW8
    have lenB : (B.length : Int) = 48 := by omega
    rcases second with e1 | ⟨e1, e2, e3, e4, e5, e6, e7⟩
    · generalize decH b = K at *
      generalize decR b = R at *
      generalize decE b = DE at *
      unfold hdD at c5
      simp only [sf_prdb16, putAll, wx, wy, wz, stV, seval, IntWalk.iteOmega, IntWalk.toNatUp, reduceCtorEq]
      refine st_call (c1) rfl (.inl rfl) ?_
      simp only [lenB, wx, wy, wz, stV, seval, IntWalk.iteOmega, IntWalk.toNatUp, reduceCtorEq]
      refine st_call (c2) rfl (.inl rfl) ?_
      simp only [wx, wy, wz, stV, seval, IntWalk.iteOmega, IntWalk.toNatUp, reduceCtorEq]
      refine st_call (c3) rfl (.inl rfl) ?_
      simp only [wx, wy, wz, stV, seval, IntWalk.iteOmega, IntWalk.toNatUp, reduceCtorEq]
      refine st_call (cS) rfl (.inl rfl) ?_
      simp only [lenB, wx, wy, wz, stV, seval, IntWalk.iteOmega, IntWalk.toNatUp, reduceCtorEq]
      refine st_call (c5) rfl (.inl rfl) ?_
      simp only [wx, wy, wz, stV, seval, IntWalk.iteOmega, IntWalk.toNatUp, reduceCtorEq]
      refine st_call (known16_c G) rfl (.inl rfl) ?_
      simp only [wx, wy, wz, stV, seval, IntWalk.iteOmega, IntWalk.toNatUp, reduceCtorEq]
      exact ret_d1 (by simp only [wx, wy, wz, stV, seval, IntWalk.iteOmega, IntWalk.toNatUp, reduceCtorEq])
    · rw [e1, e2, e6] at c5
      have c6 := penc_c G (hdG b) e5
      rw [e3, e4] at c6
      have c7 := rjoin_c G [b.take 48, b.drop 48] (by simp) (by simp; omega)
      rw [show [b.take 48, b.drop 48].flatten = b by simp] at c7
      have c8 := rsame_c G b b
      rw [beq_self_eq_true] at c8
      generalize b.take 48 = B1 at *
      generalize b.drop 48 = B2 at *
      generalize hdG b = K at *
      simp only [List.map_cons, List.map_nil] at c7
      clear e1 e2 e3 e4 e5 e6
      unfold hdD at c5 c6
      simp only [sf_prdb16, putAll, wx, wy, wz, stV, seval, IntWalk.iteOmega, IntWalk.toNatUp, reduceCtorEq]
      refine st_call (c1) rfl (.inl rfl) ?_
      simp only [lenB, wx, wy, wz, stV, seval, IntWalk.iteOmega, IntWalk.toNatUp, reduceCtorEq]
      refine st_call (c2) rfl (.inl rfl) ?_
      simp only [wx, wy, wz, stV, seval, IntWalk.iteOmega, IntWalk.toNatUp, reduceCtorEq]
      refine st_call (c3) rfl (.inl rfl) ?_
      simp only [wx, wy, wz, stV, seval, IntWalk.iteOmega, IntWalk.toNatUp, reduceCtorEq]
      refine st_call (cS) rfl (.inl rfl) ?_
      simp only [lenB, wx, wy, wz, stV, seval, IntWalk.iteOmega, IntWalk.toNatUp, reduceCtorEq]
      refine st_call (c5) rfl (.inl rfl) ?_
      simp only [wx, wy, wz, stV, seval, IntWalk.iteOmega, IntWalk.toNatUp, reduceCtorEq]
      refine st_call (c6) rfl (.inl rfl) ?_
      simp only [wx, wy, wz, stV, seval, IntWalk.iteOmega, IntWalk.toNatUp, reduceCtorEq]
      refine st_call (known16_c G) rfl (.inl rfl) ?_
      simp only [wx, wy, wz, stV, seval, IntWalk.iteOmega, IntWalk.toNatUp, reduceCtorEq]
      refine st_call (c7) rfl (.inl rfl) ?_
      simp only [wx, wy, wz, stV, seval, IntWalk.iteOmega, IntWalk.toNatUp, reduceCtorEq]
      refine st_call (c8) rfl (.inl rfl) ?_
      simp only [wx, wy, wz, stV, seval, IntWalk.iteOmega, IntWalk.toNatUp, reduceCtorEq]
      exact ret_d1 (by simp only [wx, wy, wz, stV, seval, IntWalk.iteOmega, IntWalk.toNatUp, reduceCtorEq])
def sf_pans16 : SFn := ⟨4, 98,
  .seq (.reg [⟨(some 8), .mv (.k (.c (.d (.bool false)))), none⟩])
  (.seq (.reg [⟨(some 15), .mv (.t 3), none⟩,
    ⟨(some 16), .bin .rem (.t 15) (.k (.c (.d (.int .i64 256)))), none⟩,
    ⟨(some 17), .bin .add (.t 16) (.k (.c (.d (.int .i64 256)))), none⟩,
    ⟨(some 18), .bin .rem (.t 17) (.k (.c (.d (.int .i64 256)))), none⟩,
    ⟨(some 3), .mv (.t 18), none⟩])
  (.seq (.reg [⟨(some 19), .mv (.t 0), none⟩,
    ⟨(some 20), .call 16 [(.t 19)] none, none⟩,
    ⟨(some 9), .alloc [(.d (.int .i64 0)), (.d (.int .i64 0)), (.d (.int .i64 0)), (.d (.int .i64 0)), (.d (.int .i64 0)), (.d (.int .i64 0)), (.d (.int .u32 0)), (.d (.int .u32 0)), (.d (.int .u32 0)), (.d (.int .u64 0)), (.d (.int .u64 0)), (.d (.int .u64 0)), (.d (.int .u64 0))], none⟩,
    ⟨none, .store (.ag 13) (.t 9) (.t 20), none⟩])
  (.seq (.reg [⟨(some 22), .load (.ag 13) (.t 9), none⟩,
    ⟨(some 23), .mv (.t 3), none⟩,
    ⟨(some 24), .mv (.t 1), none⟩,
    ⟨(some 25), .mv (.t 2), none⟩,
    ⟨(some 26), .call 11 [(.t 22), (.t 23), (.t 24), (.t 25)] none, none⟩,
    ⟨(some 21), .mv (.t 26), none⟩,
    ⟨(some 27), .extract (.t 21) 0, none⟩,
    ⟨(some 28), .extract (.t 21) 1, none⟩,
    ⟨(some 10), .alloc [(.d (.int .i64 0)), (.d (.int .i64 0)), (.d (.int .i64 0)), (.d (.int .i64 0)), (.d (.int .i64 0)), (.d (.int .i64 0)), (.d (.int .u32 0)), (.d (.int .u32 0)), (.d (.int .u32 0)), (.d (.int .u64 0)), (.d (.int .u64 0)), (.d (.int .u64 0)), (.d (.int .u64 0))], none⟩,
    ⟨none, .store (.ag 13) (.t 10) (.t 27), none⟩,
    ⟨(some 11), .mv (.t 28), none⟩])
  (.seq (.reg [⟨(some 29), .call 16 [(.k (.c (.d (.int .u64 0))))] none, none⟩,
    ⟨(some 12), .alloc [(.d (.int .i64 0)), (.d (.int .i64 0)), (.d (.int .i64 0)), (.d (.int .i64 0)), (.d (.int .i64 0)), (.d (.int .i64 0)), (.d (.int .u32 0)), (.d (.int .u32 0)), (.d (.int .u32 0)), (.d (.int .u64 0)), (.d (.int .u64 0)), (.d (.int .u64 0)), (.d (.int .u64 0))], none⟩,
    ⟨none, .store (.ag 13) (.t 12) (.t 29), none⟩])
  (.seq (.reg [⟨(some 30), .mv (.t 0), none⟩,
    ⟨(some 31), .fieldAddr 12 (.t 12), none⟩,
    ⟨none, .store .sc (.t 31) (.t 30), none⟩])
  (.seq (.reg [⟨(some 33), .load (.ag 13) (.t 10), none⟩,
    ⟨(some 34), .mv (.t 3), none⟩,
    ⟨(some 35), .mv (.t 1), none⟩,
    ⟨(some 36), .mv (.t 2), none⟩,
    ⟨(some 37), .call 11 [(.t 33), (.t 34), (.t 35), (.t 36)] none, none⟩,
    ⟨(some 32), .mv (.t 37), none⟩,
    ⟨(some 38), .extract (.t 32) 0, none⟩,
    ⟨(some 39), .extract (.t 32) 1, none⟩,
    ⟨(some 13), .alloc [(.d (.int .i64 0)), (.d (.int .i64 0)), (.d (.int .i64 0)), (.d (.int .i64 0)), (.d (.int .i64 0)), (.d (.int .i64 0)), (.d (.int .u32 0)), (.d (.int .u32 0)), (.d (.int .u32 0)), (.d (.int .u64 0)), (.d (.int .u64 0)), (.d (.int .u64 0)), (.d (.int .u64 0))], none⟩,
    ⟨none, .store (.ag 13) (.t 13) (.t 38), none⟩,
    ⟨(some 14), .mv (.t 39), none⟩])
  (.seq (.reg [⟨(some 40), .call 6 [] none, none⟩,
    ⟨(some 41), .mv (.t 40), none⟩,
    ⟨(some 42), .mv (.t 11), (some (41, true))⟩,
    ⟨(some 43), .bin .eql (.t 42) (.k (.c (.d (.int .i64 0)))), (some (41, true))⟩,
    ⟨(some 44), .pick (.t 41) (.t 43) (.k (.c (.d (.bool false)))), none⟩,
    ⟨(some 45), .mv (.t 44), none⟩,
    ⟨(some 46), .fieldAddr 10 (.t 10), (some (45, true))⟩,
    ⟨(some 47), .load .sc (.t 46), (some (45, true))⟩,
    ⟨(some 48), .mv (.t 0), (some (45, true))⟩,
    ⟨(some 49), .bin .eql (.t 47) (.t 48), (some (45, true))⟩,
    ⟨(some 50), .pick (.t 45) (.t 49) (.k (.c (.d (.bool false)))), none⟩,
    ⟨(some 51), .mv (.t 50), none⟩,
    ⟨(some 52), .fieldAddr 11 (.t 10), (some (51, true))⟩,
    ⟨(some 53), .load .sc (.t 52), (some (51, true))⟩,
    ⟨(some 54), .mv (.t 1), (some (51, true))⟩,
    ⟨(some 55), .bin .eql (.t 53) (.t 54), (some (51, true))⟩,
    ⟨(some 56), .pick (.t 51) (.t 55) (.k (.c (.d (.bool false)))), none⟩,
    ⟨(some 57), .mv (.t 56), none⟩,
    ⟨(some 58), .fieldAddr 12 (.t 10), (some (57, true))⟩,
    ⟨(some 59), .load .sc (.t 58), (some (57, true))⟩,
    ⟨(some 60), .mv (.t 2), (some (57, true))⟩,
    ⟨(some 61), .bin .eql (.t 59) (.t 60), (some (57, true))⟩,
    ⟨(some 62), .pick (.t 57) (.t 61) (.k (.c (.d (.bool false)))), none⟩,
    ⟨(some 63), .mv (.t 62), none⟩,
    ⟨(some 64), .fieldAddr 2 (.t 10), (some (63, true))⟩,
    ⟨(some 65), .load .sc (.t 64), (some (63, true))⟩,
    ⟨(some 66), .bin .eql (.t 65) (.k (.c (.d (.int .i64 4)))), (some (63, true))⟩,
    ⟨(some 67), .pick (.t 63) (.t 66) (.k (.c (.d (.bool false)))), none⟩,
    ⟨(some 68), .mv (.t 67), none⟩,
    ⟨(some 69), .fieldAddr 3 (.t 10), (some (68, true))⟩,
    ⟨(some 70), .load .sc (.t 69), (some (68, true))⟩,
    ⟨(some 71), .mv (.t 3), (some (68, true))⟩,
    ⟨(some 72), .bin .eql (.t 70) (.t 71), (some (68, true))⟩,
    ⟨(some 73), .pick (.t 68) (.t 72) (.k (.c (.d (.bool false)))), none⟩,
    ⟨(some 74), .mv (.t 73), none⟩,
    ⟨(some 75), .load (.ag 13) (.t 9), (some (74, true))⟩,
    ⟨(some 76), .load (.ag 13) (.t 12), (some (74, true))⟩,
    ⟨(some 77), .eqA false [0, 0, 0, 0, 0, 0, 0, 0, 0, 0, 0, 0, 0] (.t 75) (.t 76), (some (74, true))⟩,
    ⟨(some 78), .pick (.t 74) (.t 77) (.k (.c (.d (.bool false)))), none⟩,
    ⟨(some 79), .mv (.t 78), none⟩,
    ⟨(some 80), .fieldAddr 9 (.t 9), (some (79, true))⟩,
    ⟨(some 81), .load .sc (.t 80), (some (79, true))⟩,
    ⟨(some 82), .bin .eql (.t 81) (.k (.c (.d (.int .u64 0)))), (some (79, true))⟩,
    ⟨(some 83), .pick (.t 79) (.t 82) (.k (.c (.d (.bool false)))), none⟩,
    ⟨(some 84), .mv (.t 83), none⟩,
    ⟨(some 85), .fieldAddr 10 (.t 9), (some (84, true))⟩,
    ⟨(some 86), .load .sc (.t 85), (some (84, true))⟩,
    ⟨(some 87), .bin .eql (.t 86) (.k (.c (.d (.int .u64 0)))), (some (84, true))⟩,
    ⟨(some 88), .pick (.t 84) (.t 87) (.k (.c (.d (.bool false)))), none⟩,
    ⟨(some 89), .mv (.t 88), none⟩,
    ⟨(some 90), .fieldAddr 11 (.t 9), (some (89, true))⟩,
    ⟨(some 91), .load .sc (.t 90), (some (89, true))⟩,
    ⟨(some 92), .bin .eql (.t 91) (.k (.c (.d (.int .u64 0)))), (some (89, true))⟩,
    ⟨(some 93), .pick (.t 89) (.t 92) (.k (.c (.d (.bool false)))), none⟩,
    ⟨(some 94), .mv (.t 93), none⟩,
    ⟨(some 95), .mv (.t 14), (some (94, true))⟩,
    ⟨(some 96), .bin .eql (.t 95) (.k (.c (.d (.int .i64 3)))), (some (94, true))⟩,
    ⟨(some 97), .pick (.t 94) (.t 96) (.k (.c (.d (.bool false)))), none⟩,
    ⟨(some 8), .mv (.t 97), none⟩])
  (.ret)))))))),
  [(8, none)]⟩
theorem cf_pans16 : compFn Try.prog { own := [], comp := [], frz := [], nils := [] } Try.f5 = some sf_pans16 := by kernel_rfl
set_option maxHeartbeats 1600000 in
theorem pans16_c (G : Glob) (t : Nat) (ht : t < 18446744073709551616) (rc : Nat) (hrc : rc < 18446744073709551616) (tr : Nat) (htr : tr < 18446744073709551616) (st : Int) (hst1 : -9223372036854775808 ≤ st) (hst2 : st ≤ 9223372036854775807)  : Den Try.prog G 5 [.int .u64 (t : Int), .int .u64 (rc : Int), .int .u64 (tr : Int), .int .i64 st] (.w (.c (.d (.bool true)))) := by
  refine den_walk Try.func5 cf_pans16 rfl rfl ?_
  have k1 : -256 < Int.tmod st 256 := Int.lt_tmod_of_pos st (by decide)
  have k2 : Int.tmod st 256 < 256 := Int.tmod_lt_of_pos st (by decide)
  have k3 : Int.tmod (Int.tmod st 256 + 256) 256 = (Int.tmod st 256 + 256) % 256 := Int.tmod_eq_emod_of_nonneg (by omega)
  generalize hs1 : Int.tmod st 256 = s1 at *
  obtain ⟨S, hS⟩ : ∃ S, (s1 + 256) % 256 = S := ⟨_, rfl⟩
  rw [hS] at k3
  have s0 : 0 ≤ S := by omega
  have s9 : S ≤ 255 := by omega
  clear hS
  have c1 := pask_c G t
  have c0 := pask_c G 0
  have c2 := prep_c G (askH t) S rc tr
  have a1 : hdOk (askH t) = true := decide_eq_true (by unfold hdR askH; simp)
  have a2 : repE (askH t) S = 0 := by unfold repE; rw [if_pos a1, if_pos (show (askH t).md = 3 from rfl), if_pos ⟨s0, s9⟩]
  have a3 : repH (askH t) S rc tr = ⟨0, 4, 4, S, 6, -20, 0, 0, 0, 0, t, rc, tr⟩ := by unfold repH; rw [if_pos a2]; rfl
  rw [a2, a3] at c2
  have c3 := prep_c G ⟨0, 4, 4, S, 6, -20, 0, 0, 0, 0, t, rc, tr⟩ S rc tr
  have b1 : hdOk ⟨0, 4, 4, S, 6, -20, 0, 0, 0, 0, t, rc, tr⟩ = true := decide_eq_true (by unfold hdR; simp; omega)
  have b2 : repE ⟨0, 4, 4, S, 6, -20, 0, 0, 0, 0, t, rc, tr⟩ S = 3 := by unfold repE; rw [if_pos b1, if_neg (by simp)]
  rw [b2] at c3
  generalize repH ⟨0, 4, 4, S, 6, -20, 0, 0, 0, 0, t, rc, tr⟩ S rc tr = Z at *
  clear a1 a2 a3 b1 b2
  unfold hdD askH at *
  simp only [Int.natCast_zero] at c0 c1 c2 c3
  simp only [sf_pans16, putAll, wx, wy, wz, stV, seval, IntWalk.iteOmega, IntWalk.toNatUp, reduceCtorEq, hs1, k3]
  refine st_call (c1) rfl (.inl rfl) ?_
  simp only [wx, wy, wz, stV, seval, IntWalk.iteOmega, IntWalk.toNatUp, reduceCtorEq]
  refine st_call (c2) rfl (.inl rfl) ?_
  simp only [wx, wy, wz, stV, seval, IntWalk.iteOmega, IntWalk.toNatUp, reduceCtorEq]
  refine st_call (c0) rfl (.inl rfl) ?_
  simp only [wx, wy, wz, stV, seval, IntWalk.iteOmega, IntWalk.toNatUp, reduceCtorEq]
  refine st_call (c3) rfl (.inl rfl) ?_
  simp only [wx, wy, wz, stV, seval, IntWalk.iteOmega, IntWalk.toNatUp, reduceCtorEq]
  refine st_call (known16_c G) rfl (.inl rfl) ?_
  simp only [wx, wy, wz, stV, seval, IntWalk.iteOmega, IntWalk.toNatUp, reduceCtorEq]
  exact ret_d1 (by simp only [wx, wy, wz, stV, seval, IntWalk.iteOmega, IntWalk.toNatUp, reduceCtorEq])
end Go.Proofs.Ytjjjpbnkbedfbaa
