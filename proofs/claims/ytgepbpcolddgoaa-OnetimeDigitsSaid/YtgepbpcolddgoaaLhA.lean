/- OnetimeDigits: the law of layer 8 on digits returns true for every input, and leaves its arguments as they are. Own work. -/
import Derived.Test.YtgepbpcolddgoaaLh1
set_option linter.unusedVariables false
set_option linter.unusedSimpArgs false
namespace Go.Proofs.Ytgepbpcolddgoaa
open Go.RowKit
namespace onetimeDigits
set_option maxRecDepth 100000
def ss : List ParSh := [.one (.sl [.int .u8]), .one (.sl [.int .u8])]
theorem hss : allSome (parOf Try.prog) Try.f3.params.toList = some ss := by kernel_rfl
def G0 : Glob := []
theorem den (xs : List D) (h : All2 HasPar xs ss) (hz : SizedPar Try.prog Try.f3.params.toList xs) : Den Try.prog G0 3 xs (.w (.c (.d (.bool true)))) := by
  obtain ⟨x0, r0, rfl, h0, h⟩ := all2_cons h
  obtain ⟨x1, r1, rfl, h1, h⟩ := all2_cons h
  obtain rfl := all2_nil h
  obtain ⟨l0, rfl, _⟩ := is_bytes h0
  have z0 := sized_bytes hz (j := 0) (t := 22) (e := 5) (l := l0) rfl (by kernel_rfl) rfl (by kernel_rfl)
  obtain ⟨l1, rfl, _⟩ := is_bytes h1
  have z1 := sized_bytes hz (j := 1) (t := 22) (e := 5) (l := l1) rfl (by kernel_rfl) rfl (by kernel_rfl)
  exact odig_c G0 l0 z0 l1 z1
theorem lifted (os : Os) (started : os.Started) (H : Type) (enc : TypeId × Value → H) :
    ReturnsInHanded {} Try.checked os 3 .any (Rows.onetimeDigitsSpec.pre6 enc Try.prog Try.f3 Rows.onetimeDigitsRow.domain false) (Rows.onetimeDigitsSpec.post enc Try.prog Try.f3 false true false false) := by
  refine returnsInHanded_of_change_sized (C := Try.checked) own started (by kernel_rfl) Try.func3
    (ChangeSpec.witness6 (enc := enc) (C := Try.checked) false ⟨#[], (ss.map zeroPar).toArray, []⟩ 8 (by kernel_rfl) (by kernel_rfl) (by kernel_rfl) (by kernel_rfl)) ?_
  intro W base args ds gs before hval hW _ hz _
  exact (law_calls_s (P := Try.prog) (s := Rows.onetimeDigitsSpec) rfl hss rfl (by kernel_rfl) (readable_mk (by kernel_rfl)) (tb := 4) (by kernel_rfl) Try.underlying4 (fun ds hd => by
      match ds, hd with
      | [d0, d1], _ => rfl) (G := G0) den hval hW hz (fun p hp => by cases hp))
theorem row : Rows.OnetimeDigitsSaid :=
  OpenClaim.holds_of_wide 3 Try.f3 rfl rfl rfl rfl rfl rfl rfl ⟨rfl, rfl, rfl, rfl, rfl⟩ rfl rfl rfl rfl rfl (by kernel_rfl) Try.func3 (by kernel_rfl)
    (of_decide_eq_true (by kernel_rfl)) (by unfold Func.isWrapper; first | (rw [if_pos (by decide +kernel)]; kernel_rfl) | (rw [if_neg (by decide +kernel)]; exact ⟨rfl, rfl⟩))
    (fun os started H enc _ => lifted os started H enc)
theorem proved : Rows.OnetimeDigitsSaid := row
end onetimeDigits
end Go.Proofs.Ytgepbpcolddgoaa
