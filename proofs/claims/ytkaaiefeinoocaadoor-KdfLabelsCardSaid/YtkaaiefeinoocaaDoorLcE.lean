/- KdfLabels: the law of layer 3 returns true for every input, and leaves its arguments as they are. Own work. -/
import Derived.Test.YtkaaiefeinoocaaDoorLc1
set_option linter.unusedVariables false
set_option linter.unusedSimpArgs false
namespace Go.Proofs.YtkaaiefeinoocaaDoor
open Go.RowKit
namespace kdfLabels
set_option maxRecDepth 100000
def ss : List ParSh := [.one .str, .one .str, .one .str, .one .str, .one (.sl [.int .u8])]
theorem hss : allSome (parOf Tryd.prog) Tryd.f7.params.toList = some ss := by kernel_rfl
noncomputable def G0 : Glob := (globOf Tryd.prog Rows.kdfLabelsRow.laid).getD []
theorem hG0 : globOf Tryd.prog Rows.kdfLabelsRow.laid = some G0 := by kernel_rfl
theorem den (xs : List D) (h : All2 HasPar xs ss) : Den Tryd.prog G0 7 xs (.w (.c (.d (.bool true)))) := by
  obtain ⟨x0, r0, rfl, h0, h⟩ := all2_cons h
  obtain ⟨x1, r1, rfl, h1, h⟩ := all2_cons h
  obtain ⟨x2, r2, rfl, h2, h⟩ := all2_cons h
  obtain ⟨x3, r3, rfl, h3, h⟩ := all2_cons h
  obtain ⟨x4, r4, rfl, h4, h⟩ := all2_cons h
  obtain rfl := all2_nil h
  obtain ⟨l0, rfl, k0⟩ := is_str h0
  obtain ⟨l1, rfl, k1⟩ := is_str h1
  obtain ⟨l2, rfl, k2⟩ := is_str h2
  obtain ⟨l3, rfl, k3⟩ := is_str h3
  obtain ⟨l4, rfl, k4⟩ := is_bytes h4
  exact klabels_c G0 l0 k0 l1 k1 l2 k2 l3 k3 l4 k4 (by kernel_rfl) (by kernel_rfl)
noncomputable def laidWorld (os : Os) : World := { World.holding Tryd.prog os ⟨#[], #[], []⟩ with heap := laidHeap Tryd.prog Rows.kdfLabelsRow.laid (World.holding Tryd.prog os ⟨#[], #[], []⟩).heap }
noncomputable def ps0 : List MemPlace := ((readLaid Tryd.prog ((laidWorld default).forCall (fun _ _ => 0) ⟨#[], (ss.map zeroPar).toArray, []⟩).memory 8 (Rows.kdfLabelsRow.laid.map (·.1))).map (·.2)).getD []
theorem lifted (os : Os) (started : os.Started) (H : Type) (enc : TypeId × Value → H) :
    ReturnsInHanded {} Tryd.checked os 7 .any (fun w args => (Rows.kdfLabelsSpec.pre enc Tryd.prog Tryd.f7 Rows.kdfLabelsRow.domain false w args ∧ laidMet Tryd.prog Rows.kdfLabelsRow.laid w) ∧ sizedMet enc Tryd.prog Tryd.f7 (OpenSpec.ofChange Rows.kdfLabelsSpec) false w args) (Rows.kdfLabelsSpec.post enc Tryd.prog Tryd.f7 false true false false) := by
  refine returnsInHanded_of_change_and (C := Tryd.checked) (X := fun w _ => laidMet Tryd.prog Rows.kdfLabelsRow.laid w) (fun _ _ _ hh h => h.of_heap hh) own started (by kernel_rfl) Tryd.func7
    (ChangeSpec.witness_at (enc := enc) (C := Tryd.checked) (os := os) (X := fun w _ => laidMet Tryd.prog Rows.kdfLabelsRow.laid w) false (laidWorld os) (ss.map zeroPar).toArray 8 rfl (by kernel_rfl) (by kernel_rfl) (by kernel_rfl) (by kernel_rfl) (by kernel_rfl) (laidMet_mk 8 ps0 (by kernel_rfl) (by kernel_rfl) (by kernel_rfl))) ?_
  intro W base args ds gs before hval hW _ _ hL _
  obtain ⟨_, hL, _⟩ := hL
  exact (law_calls (P := Tryd.prog) (s := Rows.kdfLabelsSpec) rfl hss rfl (by kernel_rfl) (readable_mk (by kernel_rfl)) (tb := 4) (by kernel_rfl) Tryd.underlying4 (fun ds hd => by
      match ds, hd with
      | [d0, d1, d2, d3, d4], _ => rfl) (G := G0) den hval hW (glob_ok hG0 hL))
theorem row : Rows.KdfLabelsSaid :=
  OpenClaim.holds_of_wide 7 Tryd.f7 rfl rfl rfl rfl rfl rfl rfl ⟨rfl, rfl, rfl, rfl, rfl⟩ rfl rfl rfl rfl rfl (by kernel_rfl) Tryd.func7 (by kernel_rfl)
    (of_decide_eq_true (by kernel_rfl)) (by unfold Func.isWrapper; first | (rw [if_pos (by decide +kernel)]; kernel_rfl) | (rw [if_neg (by decide +kernel)]; exact ⟨rfl, rfl⟩))
    (fun os started H enc _ => lifted os started H enc)
theorem proved : Rows.KdfLabelsCardSaid :=
  Claim7.holds_tied_plain_at .later [] [.data, .data] true (true, "cd51f74d673cd8fd044a58c7076e42cea2fd97a90ab730ecf1e09ab273789039") false row (fun _ h => by cases h) (by kernel_rfl) (fun _ h => by cases h) kdfLabels_row_tie rfl ⟨rfl, rfl⟩ (by kernel_rfl) rfl
    (fun f fn hf hfn => by
      obtain rfl : f = 7 := Option.some.inj ((show Tryd.prog.funcNamed "sectime/sectimelaw03.KdfLabels" = some 7 by kernel_rfl).symm.trans hf) |>.symm
      obtain rfl : fn = Tryd.f7 := (Option.some.inj (Tryd.func7.symm.trans hfn)).symm
      exact ⟨by kernel_rfl, noStandIn (by kernel_rfl)⟩)
    (by kernel_rfl)
end kdfLabels
end Go.Proofs.YtkaaiefeinoocaaDoor
