/- Texts of one's own, merged: from: Layer 10 on data: numbers of ticks: the program and the reference. Own work. -/
import Derived.Test.YteohdchecapkfaaProg
import Derived.Laws.Bits128
import Derived.Laws.BitsAllLaws
import Derived.Test.YteohdchecapkfaaMg37
set_option linter.unusedVariables false
set_option linter.unusedSimpArgs false
namespace Go.Proofs.Yteohdchecapkfaa
open Go.RowKit IntWalk
def dW (t:Int):Bool:=decide (-1152921504606846976≤t∧t≤1152921504606846976)
theorem zp {t:Int} (h:-1152921504606846976≤t∧t≤1152921504606846976):dW t=true:=decide_eq_true h
theorem tS {t:Int} (h:¬ (-1152921504606846976≤t∧t≤1152921504606846976)):dW t=false:=decide_eq_false h
def ig:bd:=⟨1,9,ak [ce 2 false] (ak [oM 3 0,oO 4 (.bin .geq (.t 3) (.k (.c (.d (.int .i64 (-1152921504606846976)))))),oM 5 4,cA 6 0 5 true,cr .leq 7 6 1152921504606846976 5 true,cT 8 5 7,oM 2 8] .ret),[(2,none)]⟩
theorem zq:a7 Try.prog {} Try.f19=some ig:=by kernel_rfl
theorem uC (G:ap) (t:Int):aW Try.prog G 19 [.int .i64 t] (.w (.c (.d (.bool (dW t))))):=by
  refine bB Try.func19 zq rfl rfl ?_;by_cases h:t ≥ -1152921504606846976
  ·by_cases h2:t≤1152921504606846976
   ·rw[zp ⟨h,h2⟩];simp only[ig,ar,am,ai,seval,iteOmega,toNatUp,eq_true h,eq_true h2];exact aF
   ·rw[tS (by omega)];simp only[ig,ar,am,ai,seval,iteOmega,toNatUp,eq_true h,eq_false h2];exact aF
  ·rw[tS (by omega)];simp only[ig,ar,am,ai,seval,iteOmega,toNatUp,eq_false h];exact aF
end Go.Proofs.Yteohdchecapkfaa
