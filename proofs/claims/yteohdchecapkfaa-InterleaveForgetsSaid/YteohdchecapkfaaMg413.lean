/- Texts of one's own, merged: from: Layer 10 on data: numbers of ticks: the program and the reference. Own work. -/
import Derived.Test.YteohdchecapkfaaProg
import Derived.Laws.Bits128
import Derived.Laws.BitsAllLaws
import Derived.Test.YteohdchecapkfaaMg47
set_option linter.unusedVariables false
set_option linter.unusedSimpArgs false
namespace Go.Proofs.Yteohdchecapkfaa
open Go.RowKit IntWalk
def dR (t:Int):Bool:=decide (-1152921504606846976≤t∧t≤1152921504606846976)
theorem yo {t:Int} (h:-1152921504606846976≤t∧t≤1152921504606846976):dR t=true:=decide_eq_true h
theorem sZ {t:Int} (h:¬ (-1152921504606846976≤t∧t≤1152921504606846976)):dR t=false:=decide_eq_false h
def hF:bF:=⟨1,9,ak [bW 2 false] (ak [oM 3 0,oO 4 (.bin .geq (.t 3) (.k (.c (.d (.int .i64 (-1152921504606846976)))))),oM 5 4,cj 6 0 5 true,dU .leq 7 6 1152921504606846976 5 true,cu 8 5 7,oM 2 8] .ret),[(2,none)]⟩
theorem yp:bq Try.prog {} Try.f19=some hF:=by kernel_rfl
theorem tM (G:au) (t:Int):a7 Try.prog G 19 [.int .i64 t] (.w (.c (.d (.bool (dR t))))):=by
  refine b8 Try.func19 yp rfl rfl ?_;by_cases h:t ≥ -1152921504606846976
  ·by_cases h2:t≤1152921504606846976
   ·rw[yo ⟨h,h2⟩];simp only[hF,aD,ap,am,seval,iteOmega,toNatUp,eq_true h,eq_true h2];exact a6
   ·rw[sZ (by omega)];simp only[hF,aD,ap,am,seval,iteOmega,toNatUp,eq_true h,eq_false h2];exact a6
  ·rw[sZ (by omega)];simp only[hF,aD,ap,am,seval,iteOmega,toNatUp,eq_false h];exact a6
end Go.Proofs.Yteohdchecapkfaa
