/- Texts of one's own, merged: from: The plain logic (22): what a seat's laws rest on. Own work. -/
import Derived.Test.YtofonnokanoflaaRows
import Derived.ProofKit
import Derived.JoinedOf
import Derived.Test.YtofonnokanoflaaMg48
import Derived.Test.YtofonnokanoflaaMg47
set_option linter.unusedVariables false
set_option linter.unusedSimpArgs false
namespace Go.Proofs.Ytofonnokanoflaa
theorem own:ownKnob Try.prog.godebug=none:=by kernel_rfl
open Go.RowKit
def zD (n:Int):D:=.int .i64 n
def mZ (n:Int):Prop:=-9223372036854775808≤n∧n≤9223372036854775807
theorem Kr (l:List Int):cH 1 (l.map zD)=true:=nO zD (fun _=>rfl) l
theorem L0 {x:D} (h:dS (.sl [.int .i64]) x):∃ l:List Int,x=.sl (l.map zD)∧l.length≤maxLen∧∀ n∈l,mZ n:=by
  obtain⟨l,rfl,hl⟩:=Nq (α:={ n:Int // mZ n }) (fun n=>zD n.1) (fun x hx=>by
    obtain⟨n,rfl,h1,h2⟩:=Ed hx;exact⟨⟨n,h1,h2⟩,rfl⟩) h
  refine⟨l.map (·.1),by rw[S4]; rfl,by simpa using hl,fun y hy=>?_⟩;obtain⟨z,_,rfl⟩:=RO.1 hy;exact z.2
end Go.Proofs.Ytofonnokanoflaa
