/- Texts of one's own, merged: from: The plain logic (25): calls that change a variable of the caller's: a box of data. Own work. -/
import Derived.Shelf.Abstract
import Derived.Test.YtlghfnidknfakaaGreatDoorMg57
import Derived.Test.YtlghfnidknfakaaGreatDoorMg58
set_option linter.unusedVariables false
set_option linter.unusedSimpArgs false
namespace Go.Proofs.YtlghfnidknfakaaGreatDoor
open Go.RowKit
section
variable {P:Program} {G:ah}
def yO (P:Program) (G:ah) (d:Option Nat) (r:List aZ) (K:St→Prop) (f:Nat→V) (h:au) (u:Nat→Bool) (F:Nat) (pre:Option (List Cp)) (post:Option (List Cp)):Prop :=
  match pre,post with | some a,some b=>aH P G r K ⟨bg f d (.w (.c (.cf F a b))),h,u⟩ | _,_=>False
theorem FC (d:Option Nat) (r:List aZ) (K:St→Prop) (f:Nat→V) (h:au) (u:Nat→Bool) (F:Nat) (xs ys:List SX):aH P G (⟨d,.closM F xs ys,none⟩::r) K ⟨f,h,u⟩=yO P G d r K f h u F (cU (xs.map (ev G f))) (cU (ys.map (ev G f))):=by
  show (match (match cU (xs.map (ev G f)),cU (ys.map (ev G f)) with | some a,some b=>some (((.w (.c (.cf F a b)),h,u):R)) | _,_=>none) with | some r=>_ | none=>False)=_
  unfold yO;cases cU (xs.map (ev G f)) <;> cases cU (ys.map (ev G f)) <;> rfl
theorem C1 (d:Option Nat) (r:List aZ) (K:St→Prop) (f:Nat→V) (h:au) (u:Nat→Bool) (F:Nat) (a b:List Cp):yO P G d r K f h u F (some a) (some b)=aH P G r K ⟨bg f d (.w (.c (.cf F a b))),h,u⟩:=rfl
theorem C2:cU []=some []:=rfl
theorem C3 (id sz i o:Nat) (r:List V):cU (.w (.c (.ptr id sz i o))::r)=(cU r).map fun l=>.p id sz i o::l:=by
  simp only[cU,oP]; cases cU r <;> rfl
theorem FD (cs:List D) (r:List V):cU (.w (.c (.rp cs))::r)=(cU r).map fun l=>.d (.ref cs)::l:=by
  simp only[cU,oP,jB]; cases cU r <;> rfl
theorem C4 (k:IntKind) (n:Int) (r:List V):cU (.w (.c (.d (.int k n)))::r)=(cU r).map fun l=>.d (.int k n)::l:=by
  simp only[cU,oP,jB]; cases cU r <;> rfl
theorem FE (es:List D) (r:List V):cU (.w (.c (.d (.sl es)))::r)=(cU r).map fun l=>.d (.sl es)::l:=by
  simp only[cU,oP,jB]; cases cU r <;> rfl
theorem u5:j5 (And.intro @FC (And.intro @C1 (And.intro @C2 (And.intro @C3 (And.intro @FD (And.intro @C4 @FE)))))):=And.intro @FC (And.intro @C1 (And.intro @C2 (And.intro @C3 (And.intro @FD (And.intro @C4 @FE)))))
end
section
variable {P:Program} {G:ah}
end
end Go.Proofs.YtlghfnidknfakaaGreatDoor
