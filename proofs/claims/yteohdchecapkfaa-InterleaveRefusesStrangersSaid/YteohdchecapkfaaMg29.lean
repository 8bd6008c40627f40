/- Texts of one's own, merged: from: The plain logic (22): what a seat's laws rest on. Own work. -/
import Derived.Test.YteohdchecapkfaaRows
import Derived.ProofKit
import Derived.JoinedOf
import Derived.Test.YteohdchecapkfaaMg28
import Derived.Test.YteohdchecapkfaaMg27
set_option linter.unusedVariables false
set_option linter.unusedSimpArgs false
namespace Go.Proofs.Yteohdchecapkfaa
theorem own:ownKnob Try.prog.godebug=none:=by kernel_rfl
open Go.RowKit
def zD (n:Int):D:=.int .i64 n
def kY (n:Int):Prop:=-9223372036854775808≤n∧n≤9223372036854775807
theorem zu {x:D} (h:cc (.sl [.int .i64]) x):∃ l:List Int,x=.sl (l.map zD)∧l.length≤maxLen∧∀ n∈l,kY n:=by
  obtain⟨l,rfl,hl⟩:=Ac (α:={ n:Int // kY n }) (fun n=>zD n.1) (fun x hx=>by
    obtain⟨n,rfl,h1,h2⟩:=Aa hx;exact⟨⟨n,h1,h2⟩,rfl⟩) h
  refine⟨l.map (·.1),by rw[List.map_map]; rfl,by simpa using hl,fun y hy=>?_⟩;obtain⟨z,_,rfl⟩:=Bg.1 hy;exact z.2
end Go.Proofs.Yteohdchecapkfaa
