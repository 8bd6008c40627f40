/- Texts of one's own, merged: from: The plain logic (22): what a seat's laws rest on. Own work. -/
import Derived.Test.YtlghfnidknfakaaGreatDoorRows
import Derived.Test.YtlghfnidknfakaaGreatDoorTie
import Derived.Test.YtlghfnidknfakaaGreatDoorCards
import Derived.SevenTiedAt
import Derived.ProofKit
import Derived.JoinedOf
import Derived.Test.YtlghfnidknfakaaGreatDoorMg48
import Derived.Test.YtlghfnidknfakaaGreatDoorMg47
set_option linter.unusedVariables false
set_option linter.unusedSimpArgs false
namespace Go.Proofs.YtlghfnidknfakaaGreatDoor
theorem own:ownKnob Tryz.prog.godebug=none:=by kernel_rfl
open Go.RowKit
def zD (n:Int):D:=.int .i64 n
def pZ (n:Int):Prop:=-9223372036854775808≤n∧n≤9223372036854775807
theorem tC (l:List Int):dA 1 (l.map zD)=true:=qF zD (fun _=>rfl) l
theorem uk {x:D} (h:fR (.sl [.int .i64]) x):∃ l:List Int,x=.sl (l.map zD)∧l.length≤maxLen∧∀ n∈l,pZ n:=by
  obtain⟨l,rfl,hl⟩:=Ww (α:={ n:Int // pZ n }) (fun n=>zD n.1) (fun x hx=>by
    obtain⟨n,rfl,h1,h2⟩:=Ai hx;exact⟨⟨n,h1,h2⟩,rfl⟩) h
  refine⟨l.map (·.1),by rw[ac6]; rfl,by simpa using hl,fun y hy=>?_⟩;obtain⟨z,_,rfl⟩:=abo.1 hy;exact z.2
end Go.Proofs.YtlghfnidknfakaaGreatDoor
