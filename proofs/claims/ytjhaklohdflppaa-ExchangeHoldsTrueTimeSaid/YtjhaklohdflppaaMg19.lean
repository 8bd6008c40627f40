/- Texts of one's own, merged: from: The plain logic (22): what a seat's laws rest on. Own work. -/
import Derived.Test.YtjhaklohdflppaaRows
import Derived.ProofKit
import Derived.JoinedOf
import Derived.Test.YtjhaklohdflppaaMg18
import Derived.Test.YtjhaklohdflppaaMg17
set_option linter.unusedVariables false
set_option linter.unusedSimpArgs false
namespace Go.Proofs.Ytjhaklohdflppaa
theorem own:ownKnob Try.prog.godebug=none:=by kernel_rfl
open Go.RowKit
def zD (n:Int):D:=.int .i64 n
def nr (n:Int):Prop:=-9223372036854775808≤n∧n≤9223372036854775807
theorem B5 {x:D} (h:cX (.sl [.int .i64]) x):∃ l:List Int,x=.sl (l.map zD)∧l.length≤maxLen∧∀ n∈l,nr n:=by
  obtain⟨l,rfl,hl⟩:=CU (α:={ n:Int // nr n }) (fun n=>zD n.1) (fun x hx=>by
    obtain⟨n,rfl,h1,h2⟩:=mK hx;exact⟨⟨n,h1,h2⟩,rfl⟩) h
  refine⟨l.map (·.1),by rw[List.map_map]; rfl,by simpa using hl,fun y hy=>?_⟩;obtain⟨z,_,rfl⟩:=Es.1 hy;exact z.2
end Go.Proofs.Ytjhaklohdflppaa
