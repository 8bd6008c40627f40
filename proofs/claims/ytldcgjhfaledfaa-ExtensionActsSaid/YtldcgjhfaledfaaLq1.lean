/- The laws of layer 17: what its functions return. Own work. -/
import Derived.Test.YtldcgjhfaledfaaAlV
import Derived.Test.YtldcgjhfaledfaaLq0
set_option linter.unusedVariables false
set_option linter.unusedSimpArgs false
namespace Go.Proofs.Ytldcgjhfaledfaa
open Go.RowKit

def xacSt (l m : List Fd) (b : List UInt8) (k : Int) (i : Nat) : St := ⟨ofL [(0, .w (.c (.d (.sl (l.map fdD))))), (1, .w (.c (.d (.sl (b.map bD))))), (2, .w (.c (.d (.int .i64 k)))), (3, .w (.c (.d (.sl (m.map fdD))))), (9, .w (.c (.d (.int .i64 (i : Int)))))], hL [], uL []⟩
theorem rps_le (l : List UInt8) : (xpL l).length ≤ 24 := by
  unfold xpL
  split
  · rw [rps_len]; exact (eaN_le l).1
  · exact Nat.zero_le _
theorem rfs_le (l : List UInt8) : (xdL l).length ≤ 24 := by
  unfold xdL
  split
  · rw [rfs_len]; exact (eaN_le l).1
  · exact Nat.zero_le _
def lp_xact17_0 : SCode :=
  .seq (.seq (.reg [⟨(some 50), .mv (.t 9), none⟩,
    ⟨(some 51), .mv (.t 0), none⟩,
    ⟨(some 52), .len (.t 51), none⟩,
    ⟨(some 53), .bin .lss (.t 50) (.t 52), none⟩])
  (.cond (.t 53) (.skip)
   (.exit 0)))
  (.seq (.block 1 (.seq (.reg [⟨(some 57), .mv (.t 0), none⟩,
     ⟨(some 58), .mv (.t 9), none⟩,
     ⟨(some 59), .idxSl 2 (.t 57) (.t 58), none⟩,
     ⟨(some 60), .load (.ag 2) (.t 59), none⟩,
     ⟨(some 61), .call 9 [(.t 60)] none, none⟩,
     ⟨(some 56), .mv (.t 61), none⟩,
     ⟨(some 62), .extract (.t 56) 0, none⟩,
     ⟨(some 63), .extract (.t 56) 1, none⟩,
     ⟨(some 10), .mv (.t 62), none⟩,
     ⟨(some 11), .mv (.t 63), none⟩])
   (.seq (.reg [⟨(some 65), .mv (.t 0), none⟩,
     ⟨(some 66), .mv (.t 9), none⟩,
     ⟨(some 67), .idxSl 2 (.t 65) (.t 66), none⟩,
     ⟨(some 68), .load (.ag 2) (.t 67), none⟩,
     ⟨(some 69), .call 10 [(.t 68)] none, none⟩,
     ⟨(some 64), .mv (.t 69), none⟩,
     ⟨(some 70), .extract (.t 64) 0, none⟩,
     ⟨(some 71), .extract (.t 64) 1, none⟩,
     ⟨(some 12), .mv (.t 70), none⟩,
     ⟨(some 13), .mv (.t 71), none⟩])
   (.seq (.reg [⟨(some 72), .mv (.t 11), none⟩,
     ⟨(some 73), .mv (.t 13), none⟩,
     ⟨(some 74), .bin .neq (.t 72) (.t 73), none⟩,
     ⟨(some 75), .mv (.t 74), none⟩,
     ⟨(some 76), .mv (.t 10), (some (75, false))⟩,
     ⟨(some 77), .mv (.t 12), (some (75, false))⟩,
     ⟨(some 78), .bin .neq (.t 76) (.t 77), (some (75, false))⟩,
     ⟨(some 79), .pick (.t 75) (.k (.c (.d (.bool true)))) (.t 78), none⟩])
   (.cond (.t 79) (.seq (.reg [⟨(some 8), .mv (.k (.c (.d (.bool false)))), none⟩])
    (.ret))
    (.skip))))))
  (.reg [⟨(some 54), .mv (.t 9), none⟩,
    ⟨(some 55), .bin .add (.t 54) (.k (.c (.d (.int .i64 1)))), none⟩,
    ⟨(some 9), .mv (.t 55), none⟩]))
def sf_xact17 : SFn := ⟨4, 164,
  .seq (.reg [⟨(some 8), .mv (.k (.c (.d (.bool false)))), none⟩])
  (.seq (.seq (.reg [⟨(some 26), .mv (.t 0), none⟩,
    ⟨(some 27), .call 7 [(.t 26)] none, none⟩,
    ⟨(some 28), .un .not (.t 27), none⟩,
    ⟨(some 29), .mv (.t 28), none⟩,
    ⟨(some 30), .mv (.t 3), (some (29, false))⟩,
    ⟨(some 31), .call 7 [(.t 30)] none, (some (29, false))⟩,
    ⟨(some 32), .un .not (.t 31), (some (29, false))⟩,
    ⟨(some 33), .pick (.t 29) (.k (.c (.d (.bool true)))) (.t 32), none⟩,
    ⟨(some 34), .mv (.t 33), none⟩,
    ⟨(some 35), .mv (.t 1), (some (34, false))⟩,
    ⟨(some 36), .len (.t 35), (some (34, false))⟩,
    ⟨(some 37), .bin .gtr (.t 36) (.k (.c (.d (.int .i64 700)))), (some (34, false))⟩,
    ⟨(some 38), .mv (.t 37), (some (34, false))⟩,
    ⟨(some 39), .mv (.t 1), (some (38, true))⟩,
    ⟨(some 40), .len (.t 39), (some (38, true))⟩,
    ⟨(some 41), .bin .lss (.t 40) (.k (.c (.d (.int .i64 1200)))), (some (38, true))⟩,
    ⟨(some 42), .pick (.t 38) (.t 41) (.k (.c (.d (.bool false)))), (some (34, false))⟩,
    ⟨(some 43), .pick (.t 34) (.k (.c (.d (.bool true)))) (.t 42), none⟩,
    ⟨(some 44), .mv (.t 43), none⟩,
    ⟨(some 45), .mv (.t 1), (some (44, false))⟩,
    ⟨(some 46), .len (.t 45), (some (44, false))⟩,
    ⟨(some 47), .bin .gtr (.t 46) (.k (.c (.d (.int .i64 1300)))), (some (44, false))⟩,
    ⟨(some 48), .pick (.t 44) (.k (.c (.d (.bool true)))) (.t 47), none⟩])
  (.cond (.t 48) (.seq (.reg [⟨(some 49), .call 8 [] none, none⟩,
     ⟨(some 8), .mv (.t 49), none⟩])
   (.ret))
   (.skip)))
  (.seq (.seq (.reg [⟨(some 9), .mv (.k (.c (.d (.int .i64 0)))), none⟩])
  (.block 0 (.loop lp_xact17_0)))
  (.seq (.reg [⟨(some 81), .mv (.t 0), none⟩,
    ⟨(some 82), .call 11 [(.t 81)] none, none⟩,
    ⟨(some 80), .mv (.t 82), none⟩,
    ⟨(some 83), .extract (.t 80) 0, none⟩,
    ⟨(some 84), .extract (.t 80) 1, none⟩,
    ⟨(some 14), .mv (.t 83), none⟩,
    ⟨(some 15), .mv (.t 84), none⟩])
  (.seq (.reg [⟨(some 86), .mv (.t 0), none⟩,
    ⟨(some 87), .call 12 [(.t 86)] none, none⟩,
    ⟨(some 85), .mv (.t 87), none⟩,
    ⟨(some 88), .extract (.t 85) 0, none⟩,
    ⟨(some 89), .extract (.t 85) 1, none⟩,
    ⟨(some 16), .mv (.t 88), none⟩,
    ⟨(some 17), .mv (.t 89), none⟩])
  (.seq (.reg [⟨(some 91), .mv (.t 1), none⟩,
    ⟨(some 92), .call 13 [(.t 91)] none, none⟩,
    ⟨(some 90), .mv (.t 92), none⟩,
    ⟨(some 93), .extract (.t 90) 0, none⟩,
    ⟨(some 94), .extract (.t 90) 1, none⟩,
    ⟨(some 18), .mv (.t 93), none⟩,
    ⟨(some 19), .mv (.t 94), none⟩])
  (.seq (.reg [⟨(some 96), .mv (.t 1), none⟩,
    ⟨(some 97), .call 14 [(.t 96)] none, none⟩,
    ⟨(some 95), .mv (.t 97), none⟩,
    ⟨(some 98), .extract (.t 95) 0, none⟩,
    ⟨(some 99), .extract (.t 95) 1, none⟩,
    ⟨(some 20), .mv (.t 98), none⟩,
    ⟨(some 21), .mv (.t 99), none⟩])
  (.seq (.reg [⟨(some 101), .mv (.t 1), none⟩,
    ⟨(some 102), .call 15 [(.t 101)] none, none⟩,
    ⟨(some 100), .mv (.t 102), none⟩,
    ⟨(some 103), .extract (.t 100) 0, none⟩,
    ⟨(some 104), .extract (.t 100) 1, none⟩,
    ⟨(some 22), .mv (.t 103), none⟩,
    ⟨(some 23), .mv (.t 104), none⟩])
  (.seq (.reg [⟨(some 106), .mv (.t 1), none⟩,
    ⟨(some 107), .call 16 [(.t 106)] none, none⟩,
    ⟨(some 105), .mv (.t 107), none⟩,
    ⟨(some 108), .extract (.t 105) 0, none⟩,
    ⟨(some 109), .extract (.t 105) 1, none⟩,
    ⟨(some 24), .mv (.t 108), none⟩,
    ⟨(some 25), .mv (.t 109), none⟩])
  (.seq (.reg [⟨(some 110), .call 8 [] none, none⟩,
    ⟨(some 111), .mv (.t 110), none⟩,
    ⟨(some 112), .mv (.t 15), (some (111, true))⟩,
    ⟨(some 113), .mv (.t 17), (some (111, true))⟩,
    ⟨(some 114), .bin .eql (.t 112) (.t 113), (some (111, true))⟩,
    ⟨(some 115), .pick (.t 111) (.t 114) (.k (.c (.d (.bool false)))), none⟩,
    ⟨(some 116), .mv (.t 115), none⟩,
    ⟨(some 117), .mv (.t 14), (some (116, true))⟩,
    ⟨(some 118), .mv (.t 16), (some (116, true))⟩,
    ⟨(some 119), .call 17 [(.t 117), (.t 118)] none, (some (116, true))⟩,
    ⟨(some 120), .pick (.t 116) (.t 119) (.k (.c (.d (.bool false)))), none⟩,
    ⟨(some 121), .mv (.t 120), none⟩,
    ⟨(some 122), .mv (.t 19), (some (121, true))⟩,
    ⟨(some 123), .mv (.t 21), (some (121, true))⟩,
    ⟨(some 124), .bin .eql (.t 122) (.t 123), (some (121, true))⟩,
    ⟨(some 125), .pick (.t 121) (.t 124) (.k (.c (.d (.bool false)))), none⟩,
    ⟨(some 126), .mv (.t 125), none⟩,
    ⟨(some 127), .mv (.t 18), (some (126, true))⟩,
    ⟨(some 128), .mv (.t 20), (some (126, true))⟩,
    ⟨(some 129), .call 18 [(.t 127), (.t 128)] none, (some (126, true))⟩,
    ⟨(some 130), .pick (.t 126) (.t 129) (.k (.c (.d (.bool false)))), none⟩,
    ⟨(some 131), .mv (.t 130), none⟩,
    ⟨(some 132), .mv (.t 23), (some (131, true))⟩,
    ⟨(some 133), .mv (.t 25), (some (131, true))⟩,
    ⟨(some 134), .bin .eql (.t 132) (.t 133), (some (131, true))⟩,
    ⟨(some 135), .pick (.t 131) (.t 134) (.k (.c (.d (.bool false)))), none⟩,
    ⟨(some 136), .mv (.t 135), none⟩,
    ⟨(some 137), .mv (.t 22), (some (136, true))⟩,
    ⟨(some 138), .mv (.t 24), (some (136, true))⟩,
    ⟨(some 139), .call 19 [(.t 137), (.t 138)] none, (some (136, true))⟩,
    ⟨(some 140), .pick (.t 136) (.t 139) (.k (.c (.d (.bool false)))), none⟩,
    ⟨(some 141), .mv (.t 140), none⟩,
    ⟨(some 142), .mv (.t 0), (some (141, true))⟩,
    ⟨(some 143), .mv (.t 2), (some (141, true))⟩,
    ⟨(some 144), .call 20 [(.t 142), (.t 143)] none, (some (141, true))⟩,
    ⟨(some 145), .mv (.t 0), (some (141, true))⟩,
    ⟨(some 146), .mv (.t 2), (some (141, true))⟩,
    ⟨(some 147), .call 21 [(.t 145), (.t 146)] none, (some (141, true))⟩,
    ⟨(some 148), .call 19 [(.t 144), (.t 147)] none, (some (141, true))⟩,
    ⟨(some 149), .pick (.t 141) (.t 148) (.k (.c (.d (.bool false)))), none⟩,
    ⟨(some 150), .mv (.t 149), none⟩,
    ⟨(some 151), .mv (.t 0), (some (150, true))⟩,
    ⟨(some 152), .mv (.t 3), (some (150, true))⟩,
    ⟨(some 153), .call 22 [(.t 151), (.t 152)] none, (some (150, true))⟩,
    ⟨(some 154), .mv (.t 0), (some (150, true))⟩,
    ⟨(some 155), .mv (.t 3), (some (150, true))⟩,
    ⟨(some 156), .call 18 [(.t 154), (.t 155)] none, (some (150, true))⟩,
    ⟨(some 157), .eqB false (.t 153) (.t 156), (some (150, true))⟩,
    ⟨(some 158), .pick (.t 150) (.t 157) (.k (.c (.d (.bool false)))), none⟩,
    ⟨(some 159), .mv (.t 158), none⟩,
    ⟨(some 160), .mv (.t 0), (some (159, true))⟩,
    ⟨(some 161), .mv (.t 0), (some (159, true))⟩,
    ⟨(some 162), .call 22 [(.t 160), (.t 161)] none, (some (159, true))⟩,
    ⟨(some 163), .pick (.t 159) (.t 162) (.k (.c (.d (.bool false)))), none⟩,
    ⟨(some 8), .mv (.t 163), none⟩])
  (.ret)))))))))),
  [(8, none)]⟩
theorem cf_xact17 : compFn Try.prog { own := [], comp := [], frz := [], nils := [] } Try.f3 = some sf_xact17 := by kernel_rfl
set_option maxHeartbeats 1600000 in
theorem xact17_c (G : Glob) (l : List Fd) (hl1 : l.length ≤ maxLen) (hl2 : ∀ f ∈ l, fdF f) (b : List UInt8) (hb : b.length ≤ maxLen) (kind : Int) (hkind1 : -9223372036854775808 ≤ kind) (hkind2 : kind ≤ 9223372036854775807) (m : List Fd) (hm1 : m.length ≤ maxLen) (hm2 : ∀ f ∈ m, fdF f)  : Den Try.prog G 3 [.sl (l.map fdD), .sl (b.map bD), .int .i64 kind, .sl (m.map fdD)] (.w (.c (.d (.bool true)))) := by
  refine den_walk Try.func3 cf_xact17 rfl rfl ?_
  have hmx : maxLen = 9223372036854775807 := rfl
  have cl := lgh17_c G l
  have cm := lgh17_c G m
  have ck := known17_c G
  cases hL : liB l
  · rw [hL] at cl
    simp only [sf_xact17, putAll, wx, wy, wz, stV, seval, IntWalk.iteOmega, IntWalk.toNatUp, reduceCtorEq]
    refine st_call (cl) rfl (.inl rfl) ?_
    simp only [wx, wy, wz, stV, seval, IntWalk.iteOmega, IntWalk.toNatUp, reduceCtorEq]
    refine st_call (ck) rfl (.inl rfl) ?_
    simp only [wx, wy, wz, stV, seval, IntWalk.iteOmega, IntWalk.toNatUp, reduceCtorEq]
    exact ret_d1 (by simp only [wx, wy, wz, stV, seval, IntWalk.iteOmega, IntWalk.toNatUp, reduceCtorEq])
  · rw [hL] at cl
    obtain ⟨l1, l2⟩ := liB_t hL
    cases hM : liB m
    · rw [hM] at cm
      simp only [sf_xact17, putAll, wx, wy, wz, stV, seval, IntWalk.iteOmega, IntWalk.toNatUp, reduceCtorEq]
      refine st_call (cl) rfl (.inl rfl) ?_
      simp only [wx, wy, wz, stV, seval, IntWalk.iteOmega, IntWalk.toNatUp, reduceCtorEq]
      refine st_call (cm) rfl (.inl rfl) ?_
      simp only [wx, wy, wz, stV, seval, IntWalk.iteOmega, IntWalk.toNatUp, reduceCtorEq]
      refine st_call (ck) rfl (.inl rfl) ?_
      simp only [wx, wy, wz, stV, seval, IntWalk.iteOmega, IntWalk.toNatUp, reduceCtorEq]
      exact ret_d1 (by simp only [wx, wy, wz, stV, seval, IntWalk.iteOmega, IntWalk.toNatUp, reduceCtorEq])
    · rw [hM] at cm
      by_cases h7 : 700 < b.length ∧ b.length < 1200
      · have g1 : ((b.length : Int) > 700) = True := eq_true (by omega)
        have g2 : (b.length : Int) < 1200 := by omega
        simp only [sf_xact17, putAll, wx, wy, wz, stV, seval, IntWalk.iteOmega, IntWalk.toNatUp, reduceCtorEq]
        refine st_call (cl) rfl (.inl rfl) ?_
        simp only [wx, wy, wz, stV, seval, IntWalk.iteOmega, IntWalk.toNatUp, reduceCtorEq]
        refine st_call (cm) rfl (.inl rfl) ?_
        simp only [g1, wx, wy, wz, stV, seval, IntWalk.iteOmega, IntWalk.toNatUp, reduceCtorEq]
        refine st_call (ck) rfl (.inl rfl) ?_
        simp only [wx, wy, wz, stV, seval, IntWalk.iteOmega, IntWalk.toNatUp, reduceCtorEq]
        exact ret_d1 (by simp only [wx, wy, wz, stV, seval, IntWalk.iteOmega, IntWalk.toNatUp, reduceCtorEq])
      · have h7' : b.length ≤ 700 ∨ 700 < b.length ∧ 1200 ≤ b.length := by omega
        clear h7
        by_cases h13 : 1300 < b.length
        · have g1 : ((b.length : Int) > 700) = True := eq_true (by omega)
          have g2 : ((b.length : Int) < 1200) = False := eq_false (by omega)
          have g3 : ((b.length : Int) > 1300) = True := eq_true (by omega)
          simp only [sf_xact17, putAll, wx, wy, wz, stV, seval, IntWalk.iteOmega, IntWalk.toNatUp, reduceCtorEq]
          refine st_call (cl) rfl (.inl rfl) ?_
          simp only [wx, wy, wz, stV, seval, IntWalk.iteOmega, IntWalk.toNatUp, reduceCtorEq]
          refine st_call (cm) rfl (.inl rfl) ?_
          simp only [g1, g2, g3, wx, wy, wz, stV, seval, IntWalk.iteOmega, IntWalk.toNatUp, reduceCtorEq]
          refine st_call (ck) rfl (.inl rfl) ?_
          simp only [wx, wy, wz, stV, seval, IntWalk.iteOmega, IntWalk.toNatUp, reduceCtorEq]
          exact ret_d1 (by simp only [wx, wy, wz, stV, seval, IntWalk.iteOmega, IntWalk.toNatUp, reduceCtorEq])
        · have g3 : ((b.length : Int) > 1300) = False := eq_false (by omega)
          rcases h7' with h7 | h7
          · have g1 : ((b.length : Int) > 700) = False := eq_false (by omega)
            simp only [sf_xact17, putAll, wx, wy, wz, stV, seval, IntWalk.iteOmega, IntWalk.toNatUp, reduceCtorEq]
            refine st_call (cl) rfl (.inl rfl) ?_
            simp only [wx, wy, wz, stV, seval, IntWalk.iteOmega, IntWalk.toNatUp, reduceCtorEq]
            refine st_call (cm) rfl (.inl rfl) ?_
            simp only [g1, g3, wx, wy, wz, stV, seval, IntWalk.iteOmega, IntWalk.toNatUp, reduceCtorEq]
            refine loop_st (xacSt l m b kind) (fun i => l.length - i) (fun i => i ≤ l.length) 0 (Nat.zero_le _) ?_ ?_
            · refine ent_l (fun i => 0) ?_ ?_ rfl rfl <;> simp only [wx, wex, wez, stV, seval, IntWalk.iteOmega, IntWalk.toNatUp, reduceCtorEq]
            · intro i hi
              by_cases hlt : i < l.length
              · have g := getF hlt
                have c1 := xsiz_c G (l.getD i default) (by have := l2 _ (getF_mem hlt); omega)
                have c2 := rxsz_c G (l.getD i default)
                generalize xsN (l.getD i default) = n at *
                generalize xsE (l.getD i default) = e at *
                generalize l.getD i default = x at *
                unfold fdD at c1 c2
                simp only [lp_xact17_0, xacSt, wx, wy, wz, stV, seval, IntWalk.iteOmega, IntWalk.toNatUp, reduceCtorEq, get_map, g, fdD]
                refine st_call (c1) rfl (.inl rfl) ?_
                simp only [get_map, g, fdD, wx, wy, wz, stV, seval, IntWalk.iteOmega, IntWalk.toNatUp, reduceCtorEq]
                refine st_call (c2) rfl (.inl rfl) ?_
                simp only [wx, wy, wz, stV, seval, IntWalk.iteOmega, IntWalk.toNatUp, reduceCtorEq]
                refine lop_next (i + 1) (by omega) (by omega) (ent_l (fun _ => 0) ?_ ?_ rfl rfl) <;> simp only [wx, wex, wez, stV, seval, IntWalk.iteOmega, IntWalk.toNatUp, reduceCtorEq]
              · clear hkind1 hkind2
                have c1 := xenc_c G l (by omega) (fun f hf => by have := l2 f hf; omega)
                have c2 := rxen_c G l (by omega)
                have c3 := xdec_c G b (by omega)
                have c4 := rxdc_c G b (by omega)
                have c5 := xplc_c G b (by omega)
                have c6 := rxpl_c G b (by omega)
                have c7 := rsame_c G (xeB l) (xeB l)
                have c8 := rsmf_c G (xdL b) (xdL b) (by have := rfs_le b; omega)
                have c9 := lis17_c G (xpL b) (by have := rps_le b; omega)
                have cA := xfnd_c G l kind (by omega)
                have cB := rxfn_c G l kind (by omega)
                have cC := lis17_c G (fnL l kind) (by have := fnN_len l kind l.length; unfold fnL; omega)
                have cD := xsam_c G l m (by omega)
                have cE := rsmf_c G l m (by omega)
                have cF := xsam_c G l l (by omega)
                rw [decide_eq_true rfl] at c8 cF
                rw [beq_self_eq_true] at c7
                clear l1 l2 hL hM cl cm hl1 hl2 hm1 hm2 hb
                generalize xeB l = X at *
                generalize xeE l = E at *
                generalize xdL b = DL at *
                generalize xpL b = PL at *
                generalize eaE b = EA at *
                generalize fnL l kind = FL at *
                generalize decide (l = m) = bb at *
                simp only [lp_xact17_0, xacSt, wx, wy, wz, stV, seval, IntWalk.iteOmega, IntWalk.toNatUp, reduceCtorEq]
                refine st_call (c1) rfl (.inl rfl) ?_
                simp only [wx, wy, wz, stV, seval, IntWalk.iteOmega, IntWalk.toNatUp, reduceCtorEq]
                refine st_call (c2) rfl (.inl rfl) ?_
                simp only [wx, wy, wz, stV, seval, IntWalk.iteOmega, IntWalk.toNatUp, reduceCtorEq]
                refine st_call (c3) rfl (.inl rfl) ?_
                simp only [wx, wy, wz, stV, seval, IntWalk.iteOmega, IntWalk.toNatUp, reduceCtorEq]
                refine st_call (c4) rfl (.inl rfl) ?_
                simp only [wx, wy, wz, stV, seval, IntWalk.iteOmega, IntWalk.toNatUp, reduceCtorEq]
                refine st_call (c5) rfl (.inl rfl) ?_
                simp only [wx, wy, wz, stV, seval, IntWalk.iteOmega, IntWalk.toNatUp, reduceCtorEq]
                refine st_call (c6) rfl (.inl rfl) ?_
                simp only [wx, wy, wz, stV, seval, IntWalk.iteOmega, IntWalk.toNatUp, reduceCtorEq]
                refine st_call (ck) rfl (.inl rfl) ?_
                simp only [wx, wy, wz, stV, seval, IntWalk.iteOmega, IntWalk.toNatUp, reduceCtorEq]
                refine st_call (c7) rfl (.inl rfl) ?_
                simp only [wx, wy, wz, stV, seval, IntWalk.iteOmega, IntWalk.toNatUp, reduceCtorEq]
                refine st_call (c8) rfl (.inl rfl) ?_
                simp only [wx, wy, wz, stV, seval, IntWalk.iteOmega, IntWalk.toNatUp, reduceCtorEq]
                refine st_call (c9) rfl (.inl rfl) ?_
                simp only [wx, wy, wz, stV, seval, IntWalk.iteOmega, IntWalk.toNatUp, reduceCtorEq]
                refine st_call (cA) rfl (.inl rfl) ?_
                simp only [wx, wy, wz, stV, seval, IntWalk.iteOmega, IntWalk.toNatUp, reduceCtorEq]
                refine st_call (cB) rfl (.inl rfl) ?_
                simp only [wx, wy, wz, stV, seval, IntWalk.iteOmega, IntWalk.toNatUp, reduceCtorEq]
                refine st_call (cC) rfl (.inl rfl) ?_
                simp only [wx, wy, wz, stV, seval, IntWalk.iteOmega, IntWalk.toNatUp, reduceCtorEq]
                refine st_call (cD) rfl (.inl rfl) ?_
                simp only [wx, wy, wz, stV, seval, IntWalk.iteOmega, IntWalk.toNatUp, reduceCtorEq]
                refine st_call (cE) rfl (.inl rfl) ?_
                simp only [wx, wy, wz, stV, seval, IntWalk.iteOmega, IntWalk.toNatUp, reduceCtorEq]
                refine st_call (cF) rfl (.inl rfl) ?_
                simp only [wx, wy, wz, stV, seval, IntWalk.iteOmega, IntWalk.toNatUp, reduceCtorEq]
                exact ret_d1 (by simp only [wx, wy, wz, stV, seval, IntWalk.iteOmega, IntWalk.toNatUp, reduceCtorEq])
          · have g1 : ((b.length : Int) > 700) = True := eq_true (by omega)
            have g2 : ((b.length : Int) < 1200) = False := eq_false (by omega)
            simp only [sf_xact17, putAll, wx, wy, wz, stV, seval, IntWalk.iteOmega, IntWalk.toNatUp, reduceCtorEq]
            refine st_call (cl) rfl (.inl rfl) ?_
            simp only [wx, wy, wz, stV, seval, IntWalk.iteOmega, IntWalk.toNatUp, reduceCtorEq]
            refine st_call (cm) rfl (.inl rfl) ?_
            simp only [g1, g2, g3, wx, wy, wz, stV, seval, IntWalk.iteOmega, IntWalk.toNatUp, reduceCtorEq]
            refine loop_st (xacSt l m b kind) (fun i => l.length - i) (fun i => i ≤ l.length) 0 (Nat.zero_le _) ?_ ?_
            · refine ent_l (fun i => 0) ?_ ?_ rfl rfl <;> simp only [wx, wex, wez, stV, seval, IntWalk.iteOmega, IntWalk.toNatUp, reduceCtorEq]
            · intro i hi
              by_cases hlt : i < l.length
              · have g := getF hlt
                have c1 := xsiz_c G (l.getD i default) (by have := l2 _ (getF_mem hlt); omega)
                have c2 := rxsz_c G (l.getD i default)
                generalize xsN (l.getD i default) = n at *
                generalize xsE (l.getD i default) = e at *
                generalize l.getD i default = x at *
                unfold fdD at c1 c2
                simp only [lp_xact17_0, xacSt, wx, wy, wz, stV, seval, IntWalk.iteOmega, IntWalk.toNatUp, reduceCtorEq, get_map, g, fdD]
                refine st_call (c1) rfl (.inl rfl) ?_
                simp only [get_map, g, fdD, wx, wy, wz, stV, seval, IntWalk.iteOmega, IntWalk.toNatUp, reduceCtorEq]
                refine st_call (c2) rfl (.inl rfl) ?_
                simp only [wx, wy, wz, stV, seval, IntWalk.iteOmega, IntWalk.toNatUp, reduceCtorEq]
                refine lop_next (i + 1) (by omega) (by omega) (ent_l (fun _ => 0) ?_ ?_ rfl rfl) <;> simp only [wx, wex, wez, stV, seval, IntWalk.iteOmega, IntWalk.toNatUp, reduceCtorEq]
              · clear hkind1 hkind2
                have c1 := xenc_c G l (by omega) (fun f hf => by have := l2 f hf; omega)
                have c2 := rxen_c G l (by omega)
                have c3 := xdec_c G b (by omega)
                have c4 := rxdc_c G b (by omega)
                have c5 := xplc_c G b (by omega)
                have c6 := rxpl_c G b (by omega)
                have c7 := rsame_c G (xeB l) (xeB l)
                have c8 := rsmf_c G (xdL b) (xdL b) (by have := rfs_le b; omega)
                have c9 := lis17_c G (xpL b) (by have := rps_le b; omega)
                have cA := xfnd_c G l kind (by omega)
                have cB := rxfn_c G l kind (by omega)
                have cC := lis17_c G (fnL l kind) (by have := fnN_len l kind l.length; unfold fnL; omega)
                have cD := xsam_c G l m (by omega)
                have cE := rsmf_c G l m (by omega)
                have cF := xsam_c G l l (by omega)
                rw [decide_eq_true rfl] at c8 cF
                rw [beq_self_eq_true] at c7
                clear l1 l2 hL hM cl cm hl1 hl2 hm1 hm2 hb
                generalize xeB l = X at *
                generalize xeE l = E at *
                generalize xdL b = DL at *
                generalize xpL b = PL at *
                generalize eaE b = EA at *
                generalize fnL l kind = FL at *
                generalize decide (l = m) = bb at *
                simp only [lp_xact17_0, xacSt, wx, wy, wz, stV, seval, IntWalk.iteOmega, IntWalk.toNatUp, reduceCtorEq]
                refine st_call (c1) rfl (.inl rfl) ?_
                simp only [wx, wy, wz, stV, seval, IntWalk.iteOmega, IntWalk.toNatUp, reduceCtorEq]
                refine st_call (c2) rfl (.inl rfl) ?_
                simp only [wx, wy, wz, stV, seval, IntWalk.iteOmega, IntWalk.toNatUp, reduceCtorEq]
                refine st_call (c3) rfl (.inl rfl) ?_
                simp only [wx, wy, wz, stV, seval, IntWalk.iteOmega, IntWalk.toNatUp, reduceCtorEq]
                refine st_call (c4) rfl (.inl rfl) ?_
                simp only [wx, wy, wz, stV, seval, IntWalk.iteOmega, IntWalk.toNatUp, reduceCtorEq]
                refine st_call (c5) rfl (.inl rfl) ?_
                simp only [wx, wy, wz, stV, seval, IntWalk.iteOmega, IntWalk.toNatUp, reduceCtorEq]
                refine st_call (c6) rfl (.inl rfl) ?_
                simp only [wx, wy, wz, stV, seval, IntWalk.iteOmega, IntWalk.toNatUp, reduceCtorEq]
                refine st_call (ck) rfl (.inl rfl) ?_
                simp only [wx, wy, wz, stV, seval, IntWalk.iteOmega, IntWalk.toNatUp, reduceCtorEq]
                refine st_call (c7) rfl (.inl rfl) ?_
                simp only [wx, wy, wz, stV, seval, IntWalk.iteOmega, IntWalk.toNatUp, reduceCtorEq]
                refine st_call (c8) rfl (.inl rfl) ?_
                simp only [wx, wy, wz, stV, seval, IntWalk.iteOmega, IntWalk.toNatUp, reduceCtorEq]
                refine st_call (c9) rfl (.inl rfl) ?_
                simp only [wx, wy, wz, stV, seval, IntWalk.iteOmega, IntWalk.toNatUp, reduceCtorEq]
                refine st_call (cA) rfl (.inl rfl) ?_
                simp only [wx, wy, wz, stV, seval, IntWalk.iteOmega, IntWalk.toNatUp, reduceCtorEq]
                refine st_call (cB) rfl (.inl rfl) ?_
                simp only [wx, wy, wz, stV, seval, IntWalk.iteOmega, IntWalk.toNatUp, reduceCtorEq]
                refine st_call (cC) rfl (.inl rfl) ?_
                simp only [wx, wy, wz, stV, seval, IntWalk.iteOmega, IntWalk.toNatUp, reduceCtorEq]
                refine st_call (cD) rfl (.inl rfl) ?_
                simp only [wx, wy, wz, stV, seval, IntWalk.iteOmega, IntWalk.toNatUp, reduceCtorEq]
                refine st_call (cE) rfl (.inl rfl) ?_
                simp only [wx, wy, wz, stV, seval, IntWalk.iteOmega, IntWalk.toNatUp, reduceCtorEq]
                refine st_call (cF) rfl (.inl rfl) ?_
                simp only [wx, wy, wz, stV, seval, IntWalk.iteOmega, IntWalk.toNatUp, reduceCtorEq]
                exact ret_d1 (by simp only [wx, wy, wz, stV, seval, IntWalk.iteOmega, IntWalk.toNatUp, reduceCtorEq])
end Go.Proofs.Ytldcgjhfaledfaa
