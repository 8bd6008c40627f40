/- Texts of one's own, merged: from: Layer 10 on data: numbers of ticks: the program and the reference. Own work. -/
import Derived.Test.YteohdchecapkfaaProg
import Derived.Laws.Bits128
import Derived.Laws.BitsAllLaws
import Derived.Test.YteohdchecapkfaaMg17
set_option linter.unusedVariables false
set_option linter.unusedSimpArgs false
namespace Go.Proofs.Yteohdchecapkfaa
open Go.RowKit IntWalk
def cP (t:Int):Bool:=decide (-1152921504606846976≤t∧t≤1152921504606846976)
theorem lf {t:Int} (h:-1152921504606846976≤t∧t≤1152921504606846976):cP t=true:=decide_eq_true h
theorem u4 {t:Int} (h:¬ (-1152921504606846976≤t∧t≤1152921504606846976)):cP t=false:=decide_eq_false h
def i9:bg:=⟨1,9,al [bZ 2 false] (al [oM 3 0,oO 4 (.bin .geq (.t 3) (.k (.c (.d (.int .i64 (-1152921504606846976)))))),oM 5 4,cT 6 0 5 true,fJ .leq 7 6 1152921504606846976 5 true,du 8 5 7,oM 2 8] .ret),[(2,none)]⟩
theorem AZ:a7 Try.prog {} Try.f19=some i9:=by kernel_rfl
theorem vX (G:ap) (t:Int):br Try.prog G 19 [.int .i64 t] (.w (.c (.d (.bool (cP t))))):=by
  refine cq Try.func19 AZ rfl rfl ?_;by_cases h:t ≥ -1152921504606846976
  ·by_cases h2:t≤1152921504606846976
   ·rw[lf ⟨h,h2⟩];simp only[i9,aE,ae,aa,seval,iteOmega,toNatUp,eq_true h,eq_true h2];exact bz
   ·rw[u4 (by omega)];simp only[i9,aE,ae,aa,seval,iteOmega,toNatUp,eq_true h,eq_false h2];exact bz
  ·rw[u4 (by omega)];simp only[i9,aE,ae,aa,seval,iteOmega,toNatUp,eq_false h];exact bz
end Go.Proofs.Yteohdchecapkfaa
