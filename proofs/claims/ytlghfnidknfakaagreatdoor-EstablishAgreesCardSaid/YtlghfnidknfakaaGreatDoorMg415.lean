/- Texts of one's own, merged: from: The plain logic (25): calls that change a variable of the caller's: a box of data. Own work. -/
import Derived.Shelf.Abstract
import Derived.Test.YtlghfnidknfakaaGreatDoorMg47
import Derived.Test.YtlghfnidknfakaaGreatDoorMg48
set_option linter.unusedVariables false
set_option linter.unusedSimpArgs false
namespace Go.Proofs.YtlghfnidknfakaaGreatDoor
open Go.RowKit
section
variable {P:Program} {G:ah}
def AB (P:Program) (G:ah) (d:Option Nat) (r:List aX) (K:St→Prop) (f:Nat→V) (h:au) (u:Nat→Bool) (F:Nat) (pre:Option (List Cp)) (post:Option (List Cp)):Prop :=
  match pre,post with | some a,some b=>aH P G r K ⟨bi f d (.w (.c (.cf F a b))),h,u⟩ | _,_=>False
theorem Hy (d:Option Nat) (r:List aX) (K:St→Prop) (f:Nat→V) (h:au) (u:Nat→Bool) (F:Nat) (xs ys:List SX):aH P G (⟨d,.closM F xs ys,none⟩::r) K ⟨f,h,u⟩=AB P G d r K f h u F (dc (xs.map (ev G f))) (dc (ys.map (ev G f))):=by
  show (match (match dc (xs.map (ev G f)),dc (ys.map (ev G f)) with | some a,some b=>some (((.w (.c (.cf F a b)),h,u):R)) | _,_=>none) with | some r=>_ | none=>False)=_
  unfold AB;cases dc (xs.map (ev G f)) <;> cases dc (ys.map (ev G f)) <;> rfl
theorem EZ (d:Option Nat) (r:List aX) (K:St→Prop) (f:Nat→V) (h:au) (u:Nat→Bool) (F:Nat) (a b:List Cp):AB P G d r K f h u F (some a) (some b)=aH P G r K ⟨bi f d (.w (.c (.cf F a b))),h,u⟩:=rfl
theorem E0:dc []=some []:=rfl
theorem E3 (id sz i o:Nat) (r:List V):dc (.w (.c (.ptr id sz i o))::r)=(dc r).map fun l=>.p id sz i o::l:=by
  simp only[dc,pU]; cases dc r <;> rfl
theorem Hz (cs:List D) (r:List V):dc (.w (.c (.rp cs))::r)=(dc r).map fun l=>.d (.ref cs)::l:=by
  simp only[dc,pU,j9]; cases dc r <;> rfl
theorem E4 (k:IntKind) (n:Int) (r:List V):dc (.w (.c (.d (.int k n)))::r)=(dc r).map fun l=>.d (.int k n)::l:=by
  simp only[dc,pU,j9]; cases dc r <;> rfl
theorem HA (es:List D) (r:List V):dc (.w (.c (.d (.sl es)))::r)=(dc r).map fun l=>.d (.sl es)::l:=by
  simp only[dc,pU,j9]; cases dc r <;> rfl
theorem xa:kL (And.intro @Hy (And.intro @EZ (And.intro @E0 (And.intro @E3 (And.intro @Hz (And.intro @E4 @HA)))))):=And.intro @Hy (And.intro @EZ (And.intro @E0 (And.intro @E3 (And.intro @Hz (And.intro @E4 @HA)))))
end
section
variable {P:Program} {G:ah}
end
end Go.Proofs.YtlghfnidknfakaaGreatDoor
