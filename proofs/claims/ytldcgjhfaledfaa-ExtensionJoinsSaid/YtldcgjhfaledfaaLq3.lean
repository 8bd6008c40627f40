/- The laws of layer 17: lists joined; the fields of a type. Own work. -/
import Derived.Test.YtldcgjhfaledfaaLq2
set_option linter.unusedVariables false
set_option linter.unusedSimpArgs false
namespace Go.Proofs.Ytldcgjhfaledfaa
open Go.RowKit

def xjnSt (F H : List Fd) (z : List UInt8) (p : List Int) (k : Nat) : St := ⟨ofL [(5, .w (.c (.d (.sl (F.map fdD))))), (6, .w (.c (.d (.sl (H.map fdD))))), (11, .w (.c (.d (.sl (z.map bD))))), (13, .w (.c (.d (.sl (p.map zD))))), (15, .w (.c (.d (.int .i64 (xtot ((F ++ H).take k) : Int))))), (16, .w (.c (.d (.int .i64 (k : Int)))))], hL [], uL []⟩
theorem getD_l {F H : List Fd} {k : Nat} (h : k < F.length) : (F ++ H).getD k default = F.getD k default := by
  rw [List.getD_eq_getElem?_getD, List.getD_eq_getElem?_getD, List.getElem?_append_left h]
theorem getD_r {F H : List Fd} {k : Nat} (h : F.length ≤ k) : (F ++ H).getD k default = H.getD (k - F.length) default := by
  rw [List.getD_eq_getElem?_getD, List.getD_eq_getElem?_getD, List.getElem?_append_right h]
def lp_xjoi17_0 : SCode :=
  .seq (.seq (.reg [⟨(some 79), .mv (.t 16), none⟩,
    ⟨(some 80), .mv (.t 13), none⟩,
    ⟨(some 81), .len (.t 80), none⟩,
    ⟨(some 82), .bin .lss (.t 79) (.t 81), none⟩])
  (.cond (.t 82) (.skip)
   (.exit 0)))
  (.seq (.block 1 (.seq (.seq (.reg [⟨(some 85), .mv (.t 13), none⟩,
     ⟨(some 86), .mv (.t 16), none⟩,
     ⟨(some 87), .idxSl 1 (.t 85) (.t 86), none⟩,
     ⟨(some 88), .load .sc (.t 87), none⟩,
     ⟨(some 89), .mv (.t 15), none⟩,
     ⟨(some 90), .bin .neq (.t 88) (.t 89), none⟩])
   (.cond (.t 90) (.seq (.reg [⟨(some 4), .mv (.k (.c (.d (.bool false)))), none⟩])
    (.ret))
    (.skip)))
   (.seq (.reg [⟨(some 17), .mv (.k (.c (.d (.int .i64 0)))), none⟩])
   (.seq (.seq (.reg [⟨(some 91), .mv (.t 16), none⟩,
     ⟨(some 92), .mv (.t 5), none⟩,
     ⟨(some 93), .len (.t 92), none⟩,
     ⟨(some 94), .bin .lss (.t 91) (.t 93), none⟩])
   (.cond (.t 94) (.reg [⟨(some 96), .mv (.t 5), none⟩,
      ⟨(some 97), .mv (.t 16), none⟩,
      ⟨(some 98), .idxSl 2 (.t 96) (.t 97), none⟩,
      ⟨(some 99), .load (.ag 2) (.t 98), none⟩,
      ⟨(some 100), .call 10 [(.t 99)] none, none⟩,
      ⟨(some 95), .mv (.t 100), none⟩,
      ⟨(some 101), .extract (.t 95) 0, none⟩,
      ⟨(some 102), .extract (.t 95) 1, none⟩,
      ⟨(some 17), .mv (.t 101), none⟩])
    (.reg [⟨(some 104), .mv (.t 6), none⟩,
      ⟨(some 105), .mv (.t 16), none⟩,
      ⟨(some 106), .mv (.t 5), none⟩,
      ⟨(some 107), .len (.t 106), none⟩,
      ⟨(some 108), .bin .sub (.t 105) (.t 107), none⟩,
      ⟨(some 109), .idxSl 2 (.t 104) (.t 108), none⟩,
      ⟨(some 110), .load (.ag 2) (.t 109), none⟩,
      ⟨(some 111), .call 10 [(.t 110)] none, none⟩,
      ⟨(some 103), .mv (.t 111), none⟩,
      ⟨(some 112), .extract (.t 103) 0, none⟩,
      ⟨(some 113), .extract (.t 103) 1, none⟩,
      ⟨(some 17), .mv (.t 112), none⟩])))
   (.reg [⟨(some 114), .mv (.t 15), none⟩,
     ⟨(some 115), .mv (.t 17), none⟩,
     ⟨(some 116), .bin .add (.t 114) (.t 115), none⟩,
     ⟨(some 15), .mv (.t 116), none⟩])))))
  (.reg [⟨(some 83), .mv (.t 16), none⟩,
    ⟨(some 84), .bin .add (.t 83) (.k (.c (.d (.int .i64 1)))), none⟩,
    ⟨(some 16), .mv (.t 84), none⟩]))
def sf_xjoi17 : SFn := ⟨2, 124,
  .seq (.reg [⟨(some 4), .mv (.k (.c (.d (.bool false)))), none⟩])
  (.seq (.reg [⟨(some 18), .mv (.t 0), none⟩,
    ⟨(some 19), .call 23 [(.t 18)] none, none⟩,
    ⟨(some 20), .mv (.t 1), none⟩,
    ⟨(some 21), .call 23 [(.t 20)] none, none⟩,
    ⟨(some 5), .mv (.t 19), none⟩,
    ⟨(some 6), .mv (.t 21), none⟩])
  (.seq (.reg [⟨(some 23), .mv (.t 5), none⟩,
    ⟨(some 24), .call 11 [(.t 23)] none, none⟩,
    ⟨(some 22), .mv (.t 24), none⟩,
    ⟨(some 25), .extract (.t 22) 0, none⟩,
    ⟨(some 26), .extract (.t 22) 1, none⟩,
    ⟨(some 7), .mv (.t 25), none⟩,
    ⟨(some 8), .mv (.t 26), none⟩])
  (.seq (.reg [⟨(some 28), .mv (.t 6), none⟩,
    ⟨(some 29), .call 11 [(.t 28)] none, none⟩,
    ⟨(some 27), .mv (.t 29), none⟩,
    ⟨(some 30), .extract (.t 27) 0, none⟩,
    ⟨(some 31), .extract (.t 27) 1, none⟩,
    ⟨(some 9), .mv (.t 30), none⟩,
    ⟨(some 10), .mv (.t 31), none⟩])
  (.seq (.reg [⟨(some 33), .bldSl false 0 2 (.agg [(.int .i64 0), (.sl [])]) [], none⟩,
    ⟨(some 34), .mv (.t 5), none⟩,
    ⟨(some 35), .appN false 2 32 (.t 33) (.t 34), none⟩,
    ⟨(some 36), .mv (.t 6), none⟩,
    ⟨(some 37), .app false 2 32 (.t 35) (.t 36), none⟩,
    ⟨(some 38), .call 11 [(.t 37)] none, none⟩,
    ⟨(some 32), .mv (.t 38), none⟩,
    ⟨(some 39), .extract (.t 32) 0, none⟩,
    ⟨(some 40), .extract (.t 32) 1, none⟩,
    ⟨(some 11), .mv (.t 39), none⟩,
    ⟨(some 12), .mv (.t 40), none⟩])
  (.seq (.reg [⟨(some 42), .mv (.t 11), none⟩,
    ⟨(some 43), .call 15 [(.t 42)] none, none⟩,
    ⟨(some 41), .mv (.t 43), none⟩,
    ⟨(some 44), .extract (.t 41) 0, none⟩,
    ⟨(some 45), .extract (.t 41) 1, none⟩,
    ⟨(some 13), .mv (.t 44), none⟩,
    ⟨(some 14), .mv (.t 45), none⟩])
  (.seq (.seq (.reg [⟨(some 46), .mv (.t 8), none⟩,
    ⟨(some 47), .bin .neq (.t 46) (.k (.c (.d (.int .i64 0)))), none⟩,
    ⟨(some 48), .mv (.t 47), none⟩,
    ⟨(some 49), .mv (.t 10), (some (48, false))⟩,
    ⟨(some 50), .bin .neq (.t 49) (.k (.c (.d (.int .i64 0)))), (some (48, false))⟩,
    ⟨(some 51), .pick (.t 48) (.k (.c (.d (.bool true)))) (.t 50), none⟩,
    ⟨(some 52), .mv (.t 51), none⟩,
    ⟨(some 53), .mv (.t 12), (some (52, false))⟩,
    ⟨(some 54), .bin .neq (.t 53) (.k (.c (.d (.int .i64 0)))), (some (52, false))⟩,
    ⟨(some 55), .pick (.t 52) (.k (.c (.d (.bool true)))) (.t 54), none⟩,
    ⟨(some 56), .mv (.t 55), none⟩,
    ⟨(some 57), .mv (.t 14), (some (56, false))⟩,
    ⟨(some 58), .bin .neq (.t 57) (.k (.c (.d (.int .i64 0)))), (some (56, false))⟩,
    ⟨(some 59), .pick (.t 56) (.k (.c (.d (.bool true)))) (.t 58), none⟩,
    ⟨(some 60), .mv (.t 59), none⟩,
    ⟨(some 61), .mv (.t 11), (some (60, false))⟩,
    ⟨(some 62), .mv (.t 7), (some (60, false))⟩,
    ⟨(some 63), .mv (.t 9), (some (60, false))⟩,
    ⟨(some 64), .bldSl false 2 1 (.sl []) [(0, (.t 62)), (1, (.t 63))], (some (60, false))⟩,
    ⟨(some 65), .call 25 [(.t 64)] none, (some (60, false))⟩,
    ⟨(some 66), .call 17 [(.t 61), (.t 65)] none, (some (60, false))⟩,
    ⟨(some 67), .un .not (.t 66), (some (60, false))⟩,
    ⟨(some 68), .pick (.t 60) (.k (.c (.d (.bool true)))) (.t 67), none⟩,
    ⟨(some 69), .mv (.t 68), none⟩,
    ⟨(some 70), .mv (.t 13), (some (69, false))⟩,
    ⟨(some 71), .len (.t 70), (some (69, false))⟩,
    ⟨(some 72), .mv (.t 5), (some (69, false))⟩,
    ⟨(some 73), .len (.t 72), (some (69, false))⟩,
    ⟨(some 74), .mv (.t 6), (some (69, false))⟩,
    ⟨(some 75), .len (.t 74), (some (69, false))⟩,
    ⟨(some 76), .bin .add (.t 73) (.t 75), (some (69, false))⟩,
    ⟨(some 77), .bin .neq (.t 71) (.t 76), (some (69, false))⟩,
    ⟨(some 78), .pick (.t 69) (.k (.c (.d (.bool true)))) (.t 77), none⟩])
  (.cond (.t 78) (.seq (.reg [⟨(some 4), .mv (.k (.c (.d (.bool false)))), none⟩])
   (.ret))
   (.skip)))
  (.seq (.reg [⟨(some 15), .mv (.k (.c (.d (.int .i64 0)))), none⟩])
  (.seq (.seq (.reg [⟨(some 16), .mv (.k (.c (.d (.int .i64 0)))), none⟩])
  (.block 0 (.loop lp_xjoi17_0)))
  (.seq (.reg [⟨(some 117), .call 8 [] none, none⟩,
    ⟨(some 118), .mv (.t 117), none⟩,
    ⟨(some 119), .mv (.t 15), (some (118, true))⟩,
    ⟨(some 120), .mv (.t 11), (some (118, true))⟩,
    ⟨(some 121), .len (.t 120), (some (118, true))⟩,
    ⟨(some 122), .bin .eql (.t 119) (.t 121), (some (118, true))⟩,
    ⟨(some 123), .pick (.t 118) (.t 122) (.k (.c (.d (.bool false)))), none⟩,
    ⟨(some 4), .mv (.t 123), none⟩])
  (.ret)))))))))),
  [(4, none)]⟩
theorem cf_xjoi17 : compFn Try.prog { own := [], comp := [], frz := [], nils := [35] } Try.f5 = some sf_xjoi17 := by kernel_rfl
set_option maxHeartbeats 1600000 in
theorem xjoi17_c (G : Glob) (x : List Fd) (hx1 : x.length ≤ maxLen) (hx2 : ∀ f ∈ x, fdF f) (y : List Fd) (hy1 : y.length ≤ maxLen) (hy2 : ∀ f ∈ y, fdF f)  : Den Try.prog G 5 [.sl (x.map fdD), .sl (y.map fdD)] (.w (.c (.d (.bool true)))) := by
  refine den_walk Try.func5 cf_xjoi17 rfl rfl ?_
  have ck := known17_c G
  have c0 := wfds_c G x hx1 (fun f hf => (hx2 f hf).2)
  have c1 := wfds_c G y hy1 (fun f hf => (hy2 f hf).2)
  have hle := wfL_le x
  have hle2 := wfL_le y
  have hmF := fun f (hf : f ∈ wfL x) => wfL_mem hf
  have hmH := fun f (hf : f ∈ wfL y) => wfL_mem hf
  clear hx1 hx2 hy1 hy2
  generalize wfL x = F at *
  generalize wfL y = H at *
  have hmW : ∀ f ∈ F ++ H, xsE f = 0 ∧ xsT f ≤ 76 ∧ f.da.length ≤ 60 := fun f hf => by
    rcases List.mem_append.1 hf with hf | hf
    · exact ⟨(hmF f hf).1, (hmF f hf).2.2.1, (hmF f hf).2.1⟩
    · exact ⟨(hmH f hf).1, (hmH f hf).2.2.1, (hmH f hf).2.1⟩
  have hlW : (F ++ H).length = F.length + H.length := List.length_append
  obtain ⟨e1, e2, _⟩ := xe_short (l := F) (fun f hf => ⟨(hmF f hf).1, (hmF f hf).2.2.1⟩) (by omega)
  obtain ⟨f1, f2, _⟩ := xe_short (l := H) (fun f hf => ⟨(hmH f hf).1, (hmH f hf).2.2.1⟩) (by omega)
  obtain ⟨g1, g2, _⟩ := xe_short (l := F ++ H) (fun f hf => ⟨(hmW f hf).1, (hmW f hf).2.1⟩) (by omega)
  obtain ⟨d1, _, d2⟩ := dec_enc g1
  have c2 := xenc_c G F (by omega) (fun f hf => by have := (hmF f hf).2.1; omega)
  rw [e1, e2] at c2
  have c3 := xenc_c G H (by omega) (fun f hf => by have := (hmH f hf).2.1; omega)
  rw [f1, f2] at c3
  have c4 := xenc_f G (F ++ H) (by omega) (fun f hf => by have := (hmW f hf).2.2; omega)
  rw [g1, g2, xall_app] at c4
  have hT := tot_76 (l := F ++ H) fun f hf => (hmW f hf).2.1
  have hlz := xall_len (F ++ H)
  rw [xall_app] at hlz d1 d2
  have c5 := xplc_c G (xall F ++ xall H) (by omega)
  rw [d1] at c5
  have c6 := rjoin_c G [xall F, xall H] (by simp) (by simp at hlz ⊢; omega)
  simp only [List.map_cons, List.map_nil, List.flatten_cons, List.flatten_nil, List.append_nil] at c6
  have c7 := rsame_c G (xall F ++ xall H) (xall F ++ xall H)
  rw [beq_self_eq_true] at c7
  have lp : (xpL (xall F ++ xall H)).length = F.length + H.length := by rw [d2, List.length_map, List.length_range, hlW]
  have hp : ∀ k, k < F.length + H.length → (xpL (xall F ++ xall H))[k]? = some ((xtot ((F ++ H).take k) : Nat) : Int) := fun k hk => by
    rw [d2, List.getElem?_map, List.getElem?_range (by omega)]; rfl
  have hW : ∀ k, k < F.length + H.length → xsE ((F ++ H).getD k default) = 0 ∧ ((F ++ H).getD k default).da.length ≤ 60 := fun k hk => ⟨(hmW _ (getF_mem (by omega))).1, (hmW _ (getF_mem (by omega))).2.2⟩
  have htk : ∀ k, k < F.length + H.length → xtot ((F ++ H).take (k + 1)) = xtot ((F ++ H).take k) + xsT ((F ++ H).getD k default) := fun k hk => xtot_take (by omega)
  have hte : xtot ((F ++ H).take (F.length + H.length)) = (xall F ++ xall H).length := by rw [← hlW, List.take_length, hlz]
  have hle3 := fun k => xtot_le (F ++ H) k
  clear hmF hmH hmW e1 e2 f1 f2 g1 g2 d1 d2
  have az := allSz_fd F
  have az2 := allSz_fd H
  generalize xpL (xall F ++ xall H) = p at *
  have hzl : (xall F ++ xall H).length ≤ 1000 := by omega
  have hF8 : (F.map fdD).length ≤ 4 := by simpa using hle
  simp only [sf_xjoi17, putAll, wx, wy, wz, stV, seval, IntWalk.iteOmega, IntWalk.toNatUp, reduceCtorEq]
  refine st_call (c0) rfl (.inl rfl) ?_
  simp only [wx, wy, wz, stV, seval, IntWalk.iteOmega, IntWalk.toNatUp, reduceCtorEq]
  refine st_call (c1) rfl (.inl rfl) ?_
  simp only [wx, wy, wz, stV, seval, IntWalk.iteOmega, IntWalk.toNatUp, reduceCtorEq]
  refine st_call (c2) rfl (.inl rfl) ?_
  simp only [wx, wy, wz, stV, seval, IntWalk.iteOmega, IntWalk.toNatUp, reduceCtorEq]
  refine st_call (c3) rfl (.inl rfl) ?_
  simp only [srcV, az, az2, wx, wy, wz, stV, seval, IntWalk.iteOmega, IntWalk.toNatUp, reduceCtorEq]
  have hft : (F ++ H).take (F.length + H.length) = F ++ H := by rw [← hlW, List.take_length]
  refine st_call c4 (by simp only [wx, wy, wz, stV, seval, IntWalk.iteOmega, IntWalk.toNatUp, reduceCtorEq, hft]) (.inr (fl_by _ _ _ _)) ?_
  simp only [wx, wy, wz, stV, seval, IntWalk.iteOmega, IntWalk.toNatUp, reduceCtorEq]
  refine st_call (c5) rfl (.inl rfl) ?_
  simp only [wx, wy, wz, stV, seval, IntWalk.iteOmega, IntWalk.toNatUp, reduceCtorEq]
  refine st_call (c6) rfl (.inl rfl) ?_
  simp only [wx, wy, wz, stV, seval, IntWalk.iteOmega, IntWalk.toNatUp, reduceCtorEq]
  refine st_call (c7) rfl (.inl rfl) ?_
  simp only [lp, wx, wy, wz, stV, seval, IntWalk.iteOmega, IntWalk.toNatUp, reduceCtorEq]
  refine loop_st (xjnSt F H (xall F ++ xall H) p) (fun k => F.length + H.length - k) (fun k => k ≤ F.length + H.length) 0 (Nat.zero_le _) ?_ ?_
  · refine ent_l (fun i => 0) ?_ ?_ rfl rfl <;> simp only [wx, wex, wez, stV, seval, IntWalk.iteOmega, IntWalk.toNatUp, reduceCtorEq, xtot_nil]
  · intro k hk
    have h3 := hle3 k
    by_cases hlt : k < F.length + H.length
    · have gp := hp k hlt
      have ht := htk k hlt
      obtain ⟨he, hd⟩ := hW k hlt
      have cs := rxsz_c G ((F ++ H).getD k default)
      obtain ⟨q1, q2, q3⟩ := xsE_0 he
      have eN : xsN ((F ++ H).getD k default) = xsT ((F ++ H).getD k default) := (xs_fit q1 q2 q3).2
      rw [he, eN] at cs
      have h4 := hle3 (k + 1)
      clear hp htk hW hle3 hte eN
      have hst : xjnSt F H (xall F ++ xall H) p k = ⟨ofL [(5, .w (.c (.d (.sl (F.map fdD))))), (6, .w (.c (.d (.sl (H.map fdD))))), (11, .w (.c (.d (.sl ((xall F ++ xall H).map bD))))), (13, .w (.c (.d (.sl (p.map zD))))), (15, .w (.c (.d (.int .i64 (xtot ((F ++ H).take k) : Int))))), (16, .w (.c (.d (.int .i64 (k : Int)))))], hL [], uL []⟩ := rfl
      rw [hst]
      by_cases hk2 : k < F.length
      · have gf := getF hk2
        have ed := getD_l (F := F) (H := H) hk2
        rw [ed] at cs ht he hd q1 q2 q3
        generalize F.getD k default = x at *
        generalize xsT x = T at *
        unfold fdD at cs
        have gp' : (p.map zD)[k]? = some (D.int .i64 (xtot ((F ++ H).take k) : Int)) := by rw [List.getElem?_map, gp]; rfl
        simp only [lp_xjoi17_0, wx, wy, wz, stV, seval, IntWalk.iteOmega, IntWalk.toNatUp, reduceCtorEq, gp', lp]
        have gf' : (F.map fdD)[k]? = some (D.agg [.int .i64 x.ty, .sl (x.da.map bD)]) := by rw [List.getElem?_map, gf]; rfl
        simp only [wx, wy, wz, stV, seval, IntWalk.iteOmega, IntWalk.toNatUp, reduceCtorEq, gf']
        refine st_call (cs) rfl (.inl rfl) ?_
        simp only [wx, wy, wz, stV, seval, IntWalk.iteOmega, IntWalk.toNatUp, reduceCtorEq]
        refine lop_next (k + 1) (by omega) (by omega) (ent_l (fun _ => 0) ?_ ?_ rfl rfl) <;> simp only [wx, wex, wez, stV, seval, IntWalk.iteOmega, IntWalk.toNatUp, reduceCtorEq, ht]
      · have gf := getF (l := H) (i := k - F.length) (by omega)
        have ed := getD_r (F := F) (H := H) (k := k) (by omega)
        rw [ed] at cs ht he hd q1 q2 q3
        generalize H.getD (k - F.length) default = x at *
        generalize xsT x = T at *
        unfold fdD at cs
        have gp' : (p.map zD)[k]? = some (D.int .i64 (xtot ((F ++ H).take k) : Int)) := by rw [List.getElem?_map, gp]; rfl
        have gf' : (H.map fdD)[k - F.length]? = some (D.agg [.int .i64 x.ty, .sl (x.da.map bD)]) := by rw [List.getElem?_map, gf]; rfl
        have hkf : F.length ≤ k := by omega
        simp only [lp_xjoi17_0, wx, wy, wz, stV, seval, IntWalk.iteOmega, IntWalk.toNatUp, reduceCtorEq, gp', lp, gf']
        refine st_call (cs) rfl (.inl rfl) ?_
        simp only [wx, wy, wz, stV, seval, IntWalk.iteOmega, IntWalk.toNatUp, reduceCtorEq]
        refine lop_next (k + 1) (by omega) (by omega) (ent_l (fun _ => 0) ?_ ?_ rfl rfl) <;> simp only [wx, wex, wez, stV, seval, IntWalk.iteOmega, IntWalk.toNatUp, reduceCtorEq, ht]
    · have hke : k = F.length + H.length := by omega
      subst hke
      simp only [lp_xjoi17_0, xjnSt, wx, wy, wz, stV, seval, IntWalk.iteOmega, IntWalk.toNatUp, reduceCtorEq, hte, lp]
      refine st_call (ck) rfl (.inl rfl) ?_
      simp only [wx, wy, wz, stV, seval, IntWalk.iteOmega, IntWalk.toNatUp, reduceCtorEq]
      exact ret_d1 (by simp only [wx, wy, wz, stV, seval, IntWalk.iteOmega, IntWalk.toNatUp, reduceCtorEq])
/-! ### The fields of a type -/
theorem fnN_pre (l : List Fd) (k : Int) (i : Nat) : ∀ n, i ≤ n → ∃ r, fnN l k n = fnN l k i ++ r
  | 0, h => ⟨[], by rw [show i = 0 by omega, List.append_nil]⟩
  | n + 1, h => by
    by_cases e : i = n + 1
    · exact ⟨[], by rw [e, List.append_nil]⟩
    · obtain ⟨r, hr⟩ := fnN_pre l k i n (by omega)
      refine ⟨r ++ (if (l.getD n default).ty = k then [(n : Int)] else []), ?_⟩
      rw [fnN, hr, List.append_assoc]
theorem fnL_at {l : List Fd} {k : Int} {i : Nat} (hi : i < l.length) (h : (l.getD i default).ty = k) : (fnL l k)[(fnN l k i).length]? = some (i : Int) ∧ (fnN l k i).length < (fnL l k).length := by
  obtain ⟨r, hr⟩ := fnN_pre l k (i + 1) l.length (by omega)
  have e : fnL l k = fnN l k i ++ ((i : Int) :: r) := by
    unfold fnL
    rw [hr, fnN_t h, List.append_assoc]; rfl
  rw [e]
  refine ⟨?_, by simp⟩
  rw [List.getElem?_append_right (Nat.le_refl _), Nat.sub_self]
  rfl
def xfiSt (F : List Fd) (k : Int) (at_ : Int) (i : Nat) : St := ⟨ofL [(2, .w (.c (.d (.int .i64 at_)))), (7, .w (.c (.d (.sl (F.map fdD))))), (8, .w (.c (.d (.int .i64 k)))), (9, .w (.c (.d (.sl ((fnL F k).map zD))))), (10, .w (.c (.d (.int .i64 ((fnN F k i).length : Int))))), (11, .w (.c (.d (.int .i64 (i : Int)))))], hL [], uL []⟩
theorem stO_fd (l : List Fd) (i : Nat) (h : i < l.length) (a : Int) (d : List UInt8) : stO (.ag 2) (.c (.d (.agg [.int .i64 a, .sl (d.map bD)]))) i 0 (.row 2 (l.map fdD)) = some (.row 2 ((l.set i ⟨a, d⟩).map fdD)) := by
  have g : (l.map fdD)[i]? = some (.agg [.int .i64 (l.getD i default).ty, .sl ((l.getD i default).da.map bD)]) := by rw [List.getElem?_map, getF h]; rfl
  unfold stO
  simp only [g, pureW]
  rw [if_pos (by simp [D.cells, Kd.size])]
  congr 2
  rw [List.map_set]
  rfl
theorem set_ne {l : List Fd} {i : Nat} {x : Fd} (h : i < l.length) (hx : x ≠ l.getD i default) : decide (l = l.set i x) = false := by
  rw [decide_eq_false_iff_not]
  intro e
  have h1 : l.getD i default = (l.set i x).getD i default := congrArg (fun l => l.getD i default) e
  rw [List.getD_eq_getElem?_getD (l := l.set i x), List.getElem?_set_self h] at h1
  exact hx h1.symm
def lp_xfin17_0 : SCode :=
  .seq (.seq (.reg [⟨(some 25), .mv (.t 11), none⟩,
    ⟨(some 26), .mv (.t 7), none⟩,
    ⟨(some 27), .len (.t 26), none⟩,
    ⟨(some 28), .bin .lss (.t 25) (.t 27), none⟩])
  (.cond (.t 28) (.skip)
   (.exit 0)))
  (.seq (.block 1 (.seq (.reg [⟨(some 31), .mv (.t 7), none⟩,
     ⟨(some 32), .mv (.t 11), none⟩,
     ⟨(some 33), .idxSl 2 (.t 31) (.t 32), none⟩,
     ⟨(some 34), .fieldAddr 0 (.t 33), none⟩,
     ⟨(some 35), .loadB .sc (.t 34), none⟩,
     ⟨(some 36), .mv (.t 8), none⟩,
     ⟨(some 37), .bin .eql (.t 35) (.t 36), none⟩])
   (.cond (.t 37) (.seq (.seq (.reg [⟨(some 38), .mv (.t 10), none⟩,
      ⟨(some 39), .mv (.t 9), none⟩,
      ⟨(some 40), .len (.t 39), none⟩,
      ⟨(some 41), .bin .geq (.t 38) (.t 40), none⟩,
      ⟨(some 42), .mv (.t 41), none⟩,
      ⟨(some 43), .mv (.t 9), (some (42, false))⟩,
      ⟨(some 44), .mv (.t 10), (some (42, false))⟩,
      ⟨(some 45), .idxSl 1 (.t 43) (.t 44), (some (42, false))⟩,
      ⟨(some 46), .loadB .sc (.t 45), (some (42, false))⟩,
      ⟨(some 47), .mv (.t 11), (some (42, false))⟩,
      ⟨(some 48), .bin .neq (.t 46) (.t 47), (some (42, false))⟩,
      ⟨(some 49), .pick (.t 42) (.k (.c (.d (.bool true)))) (.t 48), none⟩])
    (.cond (.t 49) (.seq (.reg [⟨(some 6), .mv (.k (.c (.d (.bool false)))), none⟩])
     (.ret))
     (.skip)))
    (.reg [⟨(some 50), .mv (.t 10), none⟩,
      ⟨(some 51), .bin .add (.t 50) (.k (.c (.d (.int .i64 1)))), none⟩,
      ⟨(some 10), .mv (.t 51), none⟩]))
    (.skip))))
  (.reg [⟨(some 29), .mv (.t 11), none⟩,
    ⟨(some 30), .bin .add (.t 29) (.k (.c (.d (.int .i64 1)))), none⟩,
    ⟨(some 11), .mv (.t 30), none⟩]))
def sf_xfin17 : SFn := ⟨3, 134,
  .seq (.reg [⟨(some 6), .mv (.k (.c (.d (.bool false)))), none⟩])
  (.seq (.reg [⟨(some 15), .mv (.t 0), none⟩,
    ⟨(some 16), .call 23 [(.t 15)] none, none⟩,
    ⟨(some 7), .mv (.t 16), none⟩])
  (.seq (.reg [⟨(some 17), .bldSl false 4 1 (.int .i64 0) [(0, (.k (.c (.d (.int .i64 260))))), (1, (.k (.c (.d (.int .i64 516))))), (2, (.k (.c (.d (.int .i64 772))))), (3, (.k (.c (.d (.int .i64 8192)))))], none⟩,
    ⟨(some 18), .mv (.t 1), none⟩,
    ⟨(some 19), .call 26 [(.t 18), (.k (.c (.d (.int .i64 4))))] none, none⟩,
    ⟨(some 20), .idxSl 1 (.t 17) (.t 19), none⟩,
    ⟨(some 21), .loadB .sc (.t 20), none⟩,
    ⟨(some 8), .mv (.t 21), none⟩])
  (.seq (.reg [⟨(some 22), .mv (.t 7), none⟩,
    ⟨(some 23), .mv (.t 8), none⟩,
    ⟨(some 24), .call 20 [(.t 22), (.t 23)] none, none⟩,
    ⟨(some 9), .mv (.t 24), none⟩])
  (.seq (.reg [⟨(some 10), .mv (.k (.c (.d (.int .i64 0)))), none⟩])
  (.seq (.seq (.reg [⟨(some 11), .mv (.k (.c (.d (.int .i64 0)))), none⟩])
  (.block 0 (.loop lp_xfin17_0)))
  (.seq (.seq (.reg [⟨(some 52), .mv (.t 10), none⟩,
    ⟨(some 53), .mv (.t 9), none⟩,
    ⟨(some 54), .len (.t 53), none⟩,
    ⟨(some 55), .bin .neq (.t 52) (.t 54), none⟩])
  (.cond (.t 55) (.seq (.reg [⟨(some 6), .mv (.k (.c (.d (.bool false)))), none⟩])
   (.ret))
   (.skip)))
  (.seq (.seq (.reg [⟨(some 56), .mv (.t 7), none⟩,
    ⟨(some 57), .len (.t 56), none⟩,
    ⟨(some 58), .bin .eql (.t 57) (.k (.c (.d (.int .i64 0)))), none⟩])
  (.cond (.t 58) (.seq (.reg [⟨(some 59), .call 8 [] none, none⟩,
     ⟨(some 60), .mv (.t 59), none⟩,
     ⟨(some 61), .mv (.t 7), (some (60, true))⟩,
     ⟨(some 62), .call 22 [(.t 61), (.k (.c .nil))] none, (some (60, true))⟩,
     ⟨(some 63), .pick (.t 60) (.t 62) (.k (.c (.d (.bool false)))), none⟩,
     ⟨(some 6), .mv (.t 63), none⟩])
   (.ret))
   (.skip)))
  (.seq (.reg [⟨(some 64), .bldSl false 0 2 (.agg [(.int .i64 0), (.sl [])]) [], none⟩,
    ⟨(some 65), .mv (.t 7), none⟩,
    ⟨(some 66), .appN false 2 32 (.t 64) (.t 65), none⟩,
    ⟨(some 12), .mv (.t 66), none⟩])
  (.seq (.reg [⟨(some 67), .mv (.t 2), none⟩,
    ⟨(some 68), .mv (.t 7), none⟩,
    ⟨(some 69), .len (.t 68), none⟩,
    ⟨(some 70), .call 26 [(.t 67), (.t 69)] none, none⟩,
    ⟨(some 13), .mv (.t 70), none⟩])
  (.seq (.reg [⟨(some 71), .mv (.t 12), none⟩,
    ⟨(some 72), .mv (.t 13), none⟩,
    ⟨(some 73), .mv (.t 7), none⟩,
    ⟨(some 74), .mv (.t 13), none⟩,
    ⟨(some 75), .idxSl 2 (.t 73) (.t 74), none⟩,
    ⟨(some 76), .fieldAddr 0 (.t 75), none⟩,
    ⟨(some 77), .loadB .sc (.t 76), none⟩,
    ⟨(some 78), .bin .add (.t 77) (.k (.c (.d (.int .i64 1)))), none⟩,
    ⟨(some 79), .mv (.t 7), none⟩,
    ⟨(some 80), .mv (.t 13), none⟩,
    ⟨(some 81), .idxSl 2 (.t 79) (.t 80), none⟩,
    ⟨(some 82), .fieldAddr 1 (.t 81), none⟩,
    ⟨(some 83), .loadB .sc (.t 82), none⟩,
    ⟨(some 84), .build [(.d (.int .i64 0)), .nil] [(0, 1, (.t 78)), (1, 1, (.t 83))], none⟩,
    ⟨(some 85), .idxSl 2 (.t 71) (.t 72), none⟩,
    ⟨none, .store (.ag 2) (.t 85) (.t 84), none⟩])
  (.seq (.reg [⟨(some 86), .bldSl false 0 2 (.agg [(.int .i64 0), (.sl [])]) [], none⟩,
    ⟨(some 87), .mv (.t 7), none⟩,
    ⟨(some 88), .appN false 2 32 (.t 86) (.t 87), none⟩,
    ⟨(some 14), .mv (.t 88), none⟩])
  (.seq (.reg [⟨(some 89), .mv (.t 14), none⟩,
    ⟨(some 90), .mv (.t 13), none⟩,
    ⟨(some 91), .mv (.t 7), none⟩,
    ⟨(some 92), .mv (.t 13), none⟩,
    ⟨(some 93), .idxSl 2 (.t 91) (.t 92), none⟩,
    ⟨(some 94), .fieldAddr 0 (.t 93), none⟩,
    ⟨(some 95), .loadB .sc (.t 94), none⟩,
    ⟨(some 96), .bldSl false 0 1 (.int .u8 0) [], none⟩,
    ⟨(some 97), .mv (.t 7), none⟩,
    ⟨(some 98), .mv (.t 13), none⟩,
    ⟨(some 99), .idxSl 2 (.t 97) (.t 98), none⟩,
    ⟨(some 100), .fieldAddr 1 (.t 99), none⟩,
    ⟨(some 101), .loadB .sc (.t 100), none⟩,
    ⟨(some 102), .appN false 1 1 (.t 96) (.t 101), none⟩,
    ⟨(some 103), .bldSl false 1 1 (.int .u8 0) [(0, (.k (.c (.d (.int .u8 0)))))], none⟩,
    ⟨(some 104), .app false 1 1 (.t 102) (.t 103), none⟩,
    ⟨(some 105), .buildF [(.d (.int .i64 0)), .nil] [(0, 1, (.t 95)), (1, 1, (.t 104))], none⟩,
    ⟨(some 106), .idxSl 2 (.t 89) (.t 90), none⟩,
    ⟨none, .store (.ag 2) (.t 106) (.t 105), none⟩])
  (.seq (.reg [⟨(some 107), .call 8 [] none, none⟩,
    ⟨(some 108), .mv (.t 107), none⟩,
    ⟨(some 109), .mv (.t 7), (some (108, true))⟩,
    ⟨(some 110), .bldSl false 0 2 (.agg [(.int .i64 0), (.sl [])]) [], (some (108, true))⟩,
    ⟨(some 111), .mv (.t 7), (some (108, true))⟩,
    ⟨(some 112), .appN false 2 32 (.t 110) (.t 111), (some (108, true))⟩,
    ⟨(some 113), .call 22 [(.t 109), (.t 112)] none, (some (108, true))⟩,
    ⟨(some 114), .pick (.t 108) (.t 113) (.k (.c (.d (.bool false)))), none⟩,
    ⟨(some 115), .mv (.t 114), none⟩,
    ⟨(some 116), .mv (.t 7), (some (115, true))⟩,
    ⟨(some 117), .mv (.t 12), (some (115, true))⟩,
    ⟨(some 118), .call 22 [(.t 116), (.t 117)] none, (some (115, true))⟩,
    ⟨(some 119), .un .not (.t 118), (some (115, true))⟩,
    ⟨(some 120), .pick (.t 115) (.t 119) (.k (.c (.d (.bool false)))), none⟩,
    ⟨(some 121), .mv (.t 120), none⟩,
    ⟨(some 122), .mv (.t 7), (some (121, true))⟩,
    ⟨(some 123), .mv (.t 14), (some (121, true))⟩,
    ⟨(some 124), .call 22 [(.t 122), (.t 123)] none, (some (121, true))⟩,
    ⟨(some 125), .un .not (.t 124), (some (121, true))⟩,
    ⟨(some 126), .pick (.t 121) (.t 125) (.k (.c (.d (.bool false)))), none⟩,
    ⟨(some 127), .mv (.t 126), none⟩,
    ⟨(some 128), .mv (.t 7), (some (127, true))⟩,
    ⟨(some 129), .mv (.t 7), (some (127, true))⟩,
    ⟨(some 130), .slice 2 (.t 129) (some (.k (.c (.d (.int .i64 1))))) none none, (some (127, true))⟩,
    ⟨(some 131), .call 22 [(.t 128), (.t 130)] none, (some (127, true))⟩,
    ⟨(some 132), .un .not (.t 131), (some (127, true))⟩,
    ⟨(some 133), .pick (.t 127) (.t 132) (.k (.c (.d (.bool false)))), none⟩,
    ⟨(some 6), .mv (.t 133), none⟩])
  (.ret)))))))))))))),
  [(6, none)]⟩
theorem cf_xfin17 : compFn Try.prog { own := [], comp := [], frz := [105], nils := [66, 88, 102, 112], bx := [21, 35, 46, 77, 83, 95, 101] } Try.f6 = some sf_xfin17 := by kernel_rfl
set_option maxHeartbeats 3200000 in
theorem xfin17_c (G : Glob) (l : List Fd) (hl1 : l.length ≤ maxLen) (hl2 : ∀ f ∈ l, fdF f) (kd : Int) (hk1 : -9223372036854775808 ≤ kd) (hk2 : kd ≤ 9223372036854775807) (at_ : Int) (ha1 : -9223372036854775808 ≤ at_) (ha2 : at_ ≤ 9223372036854775807) : Den Try.prog G 6 [.sl (l.map fdD), .int .i64 kd, .int .i64 at_] (.w (.c (.d (.bool true)))) := by
  refine den_walk Try.func6 cf_xfin17 rfl rfl ?_
  have ck := known17_c G
  have c0 := wfds_c G l hl1 (fun f hf => (hl2 f hf).2)
  have hle := wfL_le l
  have hmF := fun f (hf : f ∈ wfL l) => wfL_mem hf
  clear hl1 hl2
  generalize wfL l = F at *
  have c1 := within_c G kd 4 (by decide)
  obtain ⟨w1, w2⟩ := withinN_range kd 4 (by decide)
  have gk := kndZ_get w1 w2
  have hkz := kndZ_in kd
  generalize withinN kd 4 = wn at *
  generalize kndZ wn = k at *
  have c2 := xfnd_c G F k (by omega)
  have hfl := fnN_len F k F.length
  have hfl' : (fnL F k).length ≤ 4 := Nat.le_trans hfl hle
  have hat := fun i (hi : i < F.length) (h : (F.getD i default).ty = k) => fnL_at hi h
  have hft := fun i (h : (F.getD i default).ty = k) => fnN_t (l := F) (n := i) h
  have hff := fun i (h : (F.getD i default).ty ≠ k) => fnN_f (l := F) (n := i) h
  have hfn := fun i => fnN_len F k i
  have hend : (fnN F k F.length).length = (fnL F k).length := rfl
  clear hfl
  simp only [sf_xfin17, putAll, wx, wy, wz, stV, seval, IntWalk.iteOmega, IntWalk.toNatUp, reduceCtorEq]
  refine st_call (c0) rfl (.inl rfl) ?_
  simp only [wx, wy, wz, stV, seval, IntWalk.iteOmega, IntWalk.toNatUp, reduceCtorEq]
  refine st_call (c1) rfl (.inl rfl) ?_
  simp only [gk, wx, wy, wz, stV, seval, IntWalk.iteOmega, IntWalk.toNatUp, reduceCtorEq]
  refine st_call (c2) rfl (.inl rfl) ?_
  simp only [wx, wy, wz, stV, seval, IntWalk.iteOmega, IntWalk.toNatUp, reduceCtorEq]
  refine loop_st (xfiSt F k at_) (fun i => F.length - i) (fun i => i ≤ F.length) 0 (Nat.zero_le _) ?_ ?_
  · refine ent_l (fun i => 0) ?_ ?_ rfl rfl <;> simp only [wx, wex, wez, stV, seval, IntWalk.iteOmega, IntWalk.toNatUp, reduceCtorEq, fnN]
  · intro i hi
    by_cases hlt : i < F.length
    · have gf : (F.map fdD)[i]? = some (D.agg [.int .i64 (F.getD i default).ty, .sl ((F.getD i default).da.map bD)]) := by rw [List.getElem?_map, getF hlt]; rfl
      have hst : xfiSt F k at_ i = ⟨ofL [(2, .w (.c (.d (.int .i64 at_)))), (7, .w (.c (.d (.sl (F.map fdD))))), (8, .w (.c (.d (.int .i64 k)))), (9, .w (.c (.d (.sl ((fnL F k).map zD))))), (10, .w (.c (.d (.int .i64 ((fnN F k i).length : Int))))), (11, .w (.c (.d (.int .i64 (i : Int)))))], hL [], uL []⟩ := rfl
      have hn := hfn i
      by_cases ht : (F.getD i default).ty = k
      · obtain ⟨p1, p2⟩ := hat i hlt ht
        have p3 := hft i ht
        have p1' : ((fnL F k).map zD)[(fnN F k i).length]? = some (D.int .i64 (i : Int)) := by rw [List.getElem?_map, p1]; rfl
        have ht' : ((F.getD i default).ty = k) = True := eq_true ht
        have gq : (((fnN F k i).length : Int) ≥ ((fnL F k).length : Int)) = False := eq_false (by omega)
        have p4 : ((fnN F k (i + 1)).length : Int) = ((fnN F k i).length : Int) + 1 := by rw [p3]; simp
        rw [hst]
        clear hat hft hff hfn hmF hend p3 p1 hst
        generalize (F.getD i default).ty = ty at *
        simp only [lp_xfin17_0, wx, wy, wz, stV, seval, IntWalk.iteOmega, IntWalk.toNatUp, reduceCtorEq, gf, ht', gq, p1']
        refine lop_next (i + 1) (by omega) (by omega) (ent_l (fun _ => 0) ?_ ?_ rfl rfl) <;> simp only [wx, wex, wez, stV, seval, IntWalk.iteOmega, IntWalk.toNatUp, reduceCtorEq, p4]
      · have p3 := hff i ht
        have ht' : ((F.getD i default).ty = k) = False := eq_false ht
        rw [hst]
        clear hat hft hff hfn hmF hend hst
        generalize (F.getD i default).ty = ty at *
        simp only [lp_xfin17_0, wx, wy, wz, stV, seval, IntWalk.iteOmega, IntWalk.toNatUp, reduceCtorEq, gf, ht']
        refine lop_next (i + 1) (by omega) (by omega) (ent_l (fun _ => 0) ?_ ?_ rfl rfl) <;> simp only [wx, wex, wez, stV, seval, IntWalk.iteOmega, IntWalk.toNatUp, reduceCtorEq, p3]
    · obtain rfl : i = F.length := by omega
      clear hat hft hff hfn
      by_cases h0 : F.length = 0
      · obtain rfl : F = [] := List.length_eq_zero_iff.1 h0
        have cs := xsam_c G [] [] (by simp)
        rw [decide_eq_true rfl, List.map_nil] at cs
        have q1 : fnN [] k 0 = [] := rfl
        have q2 : fnL [] k = [] := rfl
        clear hend hmF
        simp only [lp_xfin17_0, xfiSt, wx, wy, wz, stV, seval, IntWalk.iteOmega, IntWalk.toNatUp, reduceCtorEq, q1, q2]
        refine st_call (ck) rfl (.inl rfl) ?_
        simp only [wx, wy, wz, stV, seval, IntWalk.iteOmega, IntWalk.toNatUp, reduceCtorEq]
        refine st_call (cs) rfl (.inl rfl) ?_
        simp only [wx, wy, wz, stV, seval, IntWalk.iteOmega, IntWalk.toNatUp, reduceCtorEq]
        exact ret_d1 (by simp only [wx, wy, wz, stV, seval, IntWalk.iteOmega, IntWalk.toNatUp, reduceCtorEq])
      · have h0' : ((F.length : Int) = 0) = False := eq_false (by omega)
        obtain ⟨v1, v2⟩ := withinN_range at_ F.length (by omega)
        have cw := within_c G at_ F.length (by omega)
        obtain ⟨I, hI⟩ := Int.eq_ofNat_of_zero_le v1
        rw [hI] at cw v2
        have hIl : I < F.length := by omega
        have hx := hmF _ (getF_mem hIl)
        have gf : (F.map fdD)[I]? = some (D.agg [.int .i64 (F.getD I default).ty, .sl ((F.getD I default).da.map bD)]) := by rw [List.getElem?_map, getF hIl]; rfl
        have s1 := stO_fd F I hIl ((F.getD I default).ty + 1) (F.getD I default).da
        have s2 := stO_fd F I hIl (F.getD I default).ty ((F.getD I default).da ++ [0])
        have n1 := set_ne (x := ⟨(F.getD I default).ty + 1, (F.getD I default).da⟩) hIl (fun e => by have h := congrArg Fd.ty e; have h : (F.getD I default).ty + 1 = (F.getD I default).ty := h; omega)
        have n2 := set_ne (x := ⟨(F.getD I default).ty, (F.getD I default).da ++ [0]⟩) hIl (fun e => by have h := congrArg (fun f => f.da.length) e; have h : ((F.getD I default).da ++ [0]).length = (F.getD I default).da.length := h; rw [List.length_append, List.length_singleton] at h; omega)
        have n3 : decide (F = F.drop 1) = false := by
          rw [decide_eq_false_iff_not]; intro e
          have := congrArg List.length e
          rw [List.length_drop] at this; omega
        have k1 := xsam_c G F F (by omega)
        rw [decide_eq_true rfl] at k1
        have k2 := xsam_c G F (F.set I ⟨(F.getD I default).ty + 1, (F.getD I default).da⟩) (by omega)
        rw [n1] at k2
        have k3 := xsam_c G F (F.set I ⟨(F.getD I default).ty, (F.getD I default).da ++ [0]⟩) (by omega)
        rw [n2] at k3
        have k4 := xsam_c G F (F.drop 1) (by omega)
        rw [n3] at k4
        have l1 : (F.set I ⟨(F.getD I default).ty + 1, (F.getD I default).da⟩).length = F.length := List.length_set
        have l2 : (F.set I ⟨(F.getD I default).ty, (F.getD I default).da ++ [0]⟩).length = F.length := List.length_set
        have az := allSz_fd F
        clear hmF n1 n2 n3
        generalize hX : F.getD I default = X at *
        obtain ⟨x1, x2, x3, x4, x5⟩ := hx
        have hb : (X.da ++ [0]).map bD = X.da.map bD ++ [.int .u8 0] := by rw [List.map_append]; rfl
        rw [hb] at s2
        generalize F.set I ⟨X.ty + 1, X.da⟩ = G1 at *
        generalize F.set I ⟨X.ty, X.da ++ [0]⟩ = G2 at *
        have t1 : G1.take F.length = G1 := List.take_of_length_le (by omega)
        have t2 : G2.take F.length = G2 := List.take_of_length_le (by omega)
        have t3 : (F.drop 1).take (F.length - 1) = F.drop 1 := List.take_of_length_le (by simp)
        simp only [lp_xfin17_0, xfiSt, wx, wy, wz, stV, seval, IntWalk.iteOmega, IntWalk.toNatUp, reduceCtorEq, hend, h0', srcV, az]
        have t4 : (X.da.map bD ++ [D.int .u8 0]).take (X.da.length + 1) = X.da.map bD ++ [D.int .u8 0] := List.take_of_length_le (by simp)
        refine st_call (cw) rfl (.inl rfl) ?_
        simp only [srcV, az, gf, s1, s2, h0', hb, t4, wx, wy, wz, stV, seval, IntWalk.iteOmega, IntWalk.toNatUp, reduceCtorEq]
        refine st_call (ck) rfl (.inl rfl) ?_
        simp only [srcV, az, wx, wy, wz, stV, seval, IntWalk.iteOmega, IntWalk.toNatUp, reduceCtorEq]
        refine st_call k1 (by simp only [wx, wy, wz, stV, seval, IntWalk.iteOmega, IntWalk.toNatUp, reduceCtorEq]) (.inr rfl) ?_
        simp only [wx, wy, wz, stV, seval, IntWalk.iteOmega, IntWalk.toNatUp, reduceCtorEq]
        refine st_call k2 (by simp only [wx, wy, wz, stV, seval, IntWalk.iteOmega, IntWalk.toNatUp, reduceCtorEq, t1]) (.inr rfl) ?_
        simp only [wx, wy, wz, stV, seval, IntWalk.iteOmega, IntWalk.toNatUp, reduceCtorEq]
        refine st_call k3 (by simp only [wx, wy, wz, stV, seval, IntWalk.iteOmega, IntWalk.toNatUp, reduceCtorEq, t2]) (.inr rfl) ?_
        simp only [wx, wy, wz, stV, seval, IntWalk.iteOmega, IntWalk.toNatUp, reduceCtorEq, t3, az]
        refine st_call (k4) rfl (.inl rfl) ?_
        simp only [wx, wy, wz, stV, seval, IntWalk.iteOmega, IntWalk.toNatUp, reduceCtorEq]
        exact ret_d1 (by simp only [wx, wy, wz, stV, seval, IntWalk.iteOmega, IntWalk.toNatUp, reduceCtorEq])
end Go.Proofs.Ytldcgjhfaledfaa
