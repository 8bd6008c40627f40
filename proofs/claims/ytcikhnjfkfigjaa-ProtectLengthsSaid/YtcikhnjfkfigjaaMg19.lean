/- Texts of one's own, merged: from: The plain logic (22): what a seat's laws rest on. Own work. -/
import Derived.Test.YtcikhnjfkfigjaaRows
import Derived.ProofKit
import Derived.JoinedOf
import Derived.Test.YtcikhnjfkfigjaaMg18
import Derived.Test.YtcikhnjfkfigjaaMg17
set_option linter.unusedVariables false
set_option linter.unusedSimpArgs false
namespace Go.Proofs.Ytcikhnjfkfigjaa
theorem own:ownKnob Try.prog.godebug=none:=by kernel_rfl
end Go.Proofs.Ytcikhnjfkfigjaa
set_option linter.unusedVariables false
set_option linter.unusedSimpArgs false
namespace Go.Proofs.Ytcikhnjfkfigjaa
open Go.RowKit
def zD (n:Int):D:=.int .i64 n
def fitI (n:Int):Prop:=-9223372036854775808≤n∧n≤9223372036854775807
theorem allSz_zs (l:List Int):allSz 1 (l.map zD)=true:=allSz_map zD (fun _=>rfl) l
theorem is_ints {x:D} (h:IsSh (.sl [.int .i64]) x):∃ l:List Int,x=.sl (l.map zD)∧l.length≤maxLen∧∀ n∈l,fitI n:=by
  obtain⟨l,rfl,hl⟩:=is_sl1 (α:={ n:Int // fitI n }) (fun n=>zD n.1) (fun x hx=>by
    obtain⟨n,rfl,h1,h2⟩:=is_i64 hx
    exact⟨⟨n,h1,h2⟩,rfl⟩) h
  refine⟨l.map (·.1),by rw[List.map_map]; rfl,by simpa using hl,fun y hy=>?_⟩
  obtain⟨z,_,rfl⟩:=List.mem_map.1 hy
  exact z.2
end Go.Proofs.Ytcikhnjfkfigjaa
