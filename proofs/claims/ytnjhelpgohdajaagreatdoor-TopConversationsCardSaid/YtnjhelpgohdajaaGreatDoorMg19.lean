/- Texts of one's own, merged: from: The plain logic (22): what a seat's laws rest on. Own work. -/
import Derived.Test.YtnjhelpgohdajaaGreatDoorRows
import Derived.Test.YtnjhelpgohdajaaGreatDoorTie
import Derived.Test.YtnjhelpgohdajaaGreatDoorCards
import Derived.SevenTiedAt
import Derived.ProofKit
import Derived.JoinedOf
import Derived.Test.YtnjhelpgohdajaaGreatDoorMg18
import Derived.Test.YtnjhelpgohdajaaGreatDoorMg17
set_option linter.unusedVariables false
set_option linter.unusedSimpArgs false
namespace Go.Proofs.YtnjhelpgohdajaaGreatDoor
theorem own:ownKnob Tryz.prog.godebug=none:=by kernel_rfl
open Go.RowKit
def zD (n:Int):D:=.int .i64 n
def KL (n:Int):Prop:=-9223372036854775808≤n∧n≤9223372036854775807
theorem Oa (l:List Int):eZ 1 (l.map zD)=true:=xW zD (fun _=>rfl) l
theorem adR {x:D} (h:jZ (.sl [.int .i64]) x):∃ l:List Int,x=.sl (l.map zD)∧l.length≤maxLen∧∀ n∈l,KL n:=by
  obtain⟨l,rfl,hl⟩:=aiS (α:={ n:Int // KL n }) (fun n=>zD n.1) (fun x hx=>by
    obtain⟨n,rfl,h1,h2⟩:=Is hx;exact⟨⟨n,h1,h2⟩,rfl⟩) h
  refine⟨l.map (·.1),by rw[aqQ]; rfl,by simpa using hl,fun y hy=>?_⟩;obtain⟨z,_,rfl⟩:=aqa.1 hy;exact z.2
end Go.Proofs.YtnjhelpgohdajaaGreatDoor
