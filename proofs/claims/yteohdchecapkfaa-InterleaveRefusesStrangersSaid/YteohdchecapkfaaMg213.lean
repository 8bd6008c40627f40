/- Texts of one's own, merged: from: Layer 10 on data: numbers of ticks: the program and the reference. Own work. -/
import Derived.Test.YteohdchecapkfaaProg
import Derived.Laws.Bits128
import Derived.Laws.BitsAllLaws
import Derived.Test.YteohdchecapkfaaMg27
set_option linter.unusedVariables false
set_option linter.unusedSimpArgs false
namespace Go.Proofs.Yteohdchecapkfaa
open Go.RowKit IntWalk
def dl (t:Int):Bool:=decide (-1152921504606846976≤t∧t≤1152921504606846976)
theorem uu {t:Int} (h:-1152921504606846976≤t∧t≤1152921504606846976):dl t=true:=decide_eq_true h
theorem uv {t:Int} (h:¬ (-1152921504606846976≤t∧t≤1152921504606846976)):dl t=false:=decide_eq_false h
def iE:bc:=⟨1,9,am [cp 2 false] (am [oM 3 0,oO 4 (.bin .geq (.t 3) (.k (.c (.d (.int .i64 (-1152921504606846976)))))),oM 5 4,cq 6 0 5 true,dI .leq 7 6 1152921504606846976 5 true,cH 8 5 7,oM 2 8] .ret),[(2,none)]⟩
theorem Ai:aX Try.prog {} Try.f19=some iE:=by kernel_rfl
theorem vt (G:ap) (t:Int):bh Try.prog G 19 [.int .i64 t] (.w (.c (.d (.bool (dl t))))):=by
  refine b9 Try.func19 Ai rfl rfl ?_;by_cases h:t ≥ -1152921504606846976
  ·by_cases h2:t≤1152921504606846976
   ·rw[uu ⟨h,h2⟩];simp only[iE,aC,ao,aj,seval,iteOmega,toNatUp,eq_true h,eq_true h2];exact be
   ·rw[uv (by omega)];simp only[iE,aC,ao,aj,seval,iteOmega,toNatUp,eq_true h,eq_false h2];exact be
  ·rw[uv (by omega)];simp only[iE,aC,ao,aj,seval,iteOmega,toNatUp,eq_false h];exact be
end Go.Proofs.Yteohdchecapkfaa
