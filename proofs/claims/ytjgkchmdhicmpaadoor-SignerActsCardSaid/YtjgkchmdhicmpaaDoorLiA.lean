/- SignerActs: the law of layer 9 on what Sign, Left and Valid return returns true for every input, and leaves its arguments as they are. Own work. -/
import Derived.Test.YtjgkchmdhicmpaaDoorMi13
set_option linter.unusedVariables false
set_option linter.unusedSimpArgs false
namespace Go.Proofs.YtjgkchmdhicmpaaDoor
open Go.RowKit
namespace signerActs
set_option maxRecDepth 100000
def ss : List ParSh := [.many [.sl [.int .u8], .int .i64, .int .i64], .one (.sl [.int .u8])]
theorem hss : allSome (parOf Tryd.prog) Tryd.f3.params.toList = some ss := by kernel_rfl
noncomputable def G0 : Glob := (globOf Tryd.prog Rows.signerActsRow.laid).getD []
theorem hG0 : globOf Tryd.prog Rows.signerActsRow.laid = some G0 := by kernel_rfl
theorem den (xs : List D) (h : All2 HasPar xs ss) : Den Tryd.prog G0 3 xs (.w (.c (.d (.bool true)))) := by
  obtain ⟨x0, r0, rfl, h0, h⟩ := all2_cons h
  obtain ⟨x1, r1, rfl, h1, h⟩ := all2_cons h
  obtain rfl := all2_nil h
  obtain ⟨c0, rfl, h0⟩ := is_many h0
  obtain ⟨y0_0, c0, rfl, g0_0, h0⟩ := shs_cons h0
  obtain ⟨y0_1, c0, rfl, g0_1, h0⟩ := shs_cons h0
  obtain ⟨y0_2, c0, rfl, g0_2, h0⟩ := shs_cons h0
  obtain rfl := shs_nil h0
  obtain ⟨l0_0, rfl, k0_0⟩ := is_bytes g0_0
  obtain ⟨l0_1, rfl, k0_1, j0_1⟩ := is_i64 g0_1
  obtain ⟨l0_2, rfl, k0_2, j0_2⟩ := is_i64 g0_2
  obtain ⟨l1, rfl, k1⟩ := is_bytes h1
  exact iacts_c G0 l0_0 k0_0 l0_1 k0_1 j0_1 l0_2 k0_2 j0_2 l1 k1 (by kernel_rfl) (by kernel_rfl)
noncomputable def laidWorld (os : Os) : World := { World.holding Tryd.prog os ⟨#[], #[], []⟩ with heap := laidHeap Tryd.prog Rows.signerActsRow.laid (World.holding Tryd.prog os ⟨#[], #[], []⟩).heap }
noncomputable def ps0 : List MemPlace := ((readLaid Tryd.prog ((laidWorld default).forCall (fun _ _ => 0) ⟨#[], (ss.map zeroPar).toArray, []⟩).memory 8 (Rows.signerActsRow.laid.map (·.1))).map (·.2)).getD []
theorem lifted (os : Os) (started : os.Started) (H : Type) (enc : TypeId × Value → H) :
    ReturnsInHanded {} Tryd.checked os 3 .any (fun w args => (Rows.signerActsSpec.pre enc Tryd.prog Tryd.f3 Rows.signerActsRow.domain false w args ∧ laidMet Tryd.prog Rows.signerActsRow.laid w) ∧ sizedMet enc Tryd.prog Tryd.f3 (OpenSpec.ofChange Rows.signerActsSpec) false w args) (Rows.signerActsSpec.post enc Tryd.prog Tryd.f3 false true false false) := by
  refine returnsInHanded_of_change_and (C := Tryd.checked) (X := fun w _ => laidMet Tryd.prog Rows.signerActsRow.laid w) (fun _ _ _ hh h => h.of_heap hh) own started (by kernel_rfl) Tryd.func3
    (ChangeSpec.witness_at (enc := enc) (C := Tryd.checked) (os := os) (X := fun w _ => laidMet Tryd.prog Rows.signerActsRow.laid w) false (laidWorld os) (ss.map zeroPar).toArray 8 rfl (by kernel_rfl) (by kernel_rfl) (by kernel_rfl) (by kernel_rfl) (by kernel_rfl) (laidMet_mk 8 ps0 (by kernel_rfl) (by kernel_rfl) (by kernel_rfl))) ?_
  intro W base args ds gs before hval hW _ _ hL _
  obtain ⟨_, hL, _⟩ := hL
  exact (law_calls (P := Tryd.prog) (s := Rows.signerActsSpec) rfl hss rfl (by kernel_rfl) (readable_mk (by kernel_rfl)) (tb := 4) (by kernel_rfl) Tryd.underlying4 (fun ds hd => by
      match ds, hd with
      | [d0, d1], _ => rfl) (G := G0) den hval hW (glob_ok hG0 hL))
theorem row : Rows.SignerActsSaid :=
  OpenClaim.holds_of_wide 3 Tryd.f3 rfl rfl rfl rfl rfl rfl rfl ⟨rfl, rfl, rfl, rfl, rfl⟩ rfl rfl rfl rfl rfl (by kernel_rfl) Tryd.func3 (by kernel_rfl)
    (of_decide_eq_true (by kernel_rfl)) (by unfold Func.isWrapper; first | (rw [if_pos (by decide +kernel)]; kernel_rfl) | (rw [if_neg (by decide +kernel)]; exact ⟨rfl, rfl⟩))
    (fun os started H enc _ => lifted os started H enc)
theorem proved : Rows.SignerActsCardSaid :=
  Claim7.holds_tied_plain_at .later [] [.data, .data] true (true, "32f838bf9237e16d3da9665811ad9c6c8ae1518de4ac8587dc15b840ee0dfe02") false row (fun _ h => by cases h) (by kernel_rfl) (fun _ h => by cases h) signerActs_row_tie rfl ⟨rfl, rfl⟩ (by kernel_rfl) rfl
    (fun f fn hf hfn => by
      obtain rfl : f = 3 := Option.some.inj ((show Tryd.prog.funcNamed "sectime/sectimelaw09.SignerActs" = some 3 by kernel_rfl).symm.trans hf) |>.symm
      obtain rfl : fn = Tryd.f3 := (Option.some.inj (Tryd.func3.symm.trans hfn)).symm
      exact ⟨by kernel_rfl, noStandIn (by kernel_rfl)⟩)
    (by kernel_rfl)
end signerActs
end Go.Proofs.YtjgkchmdhicmpaaDoor
