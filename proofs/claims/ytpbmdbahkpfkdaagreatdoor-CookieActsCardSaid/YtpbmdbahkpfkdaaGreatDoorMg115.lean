/- Texts of one's own, merged: from: The plain logic (25): calls that change a variable of the caller's: a box of data. Own work. -/
import Derived.Shelf.Abstract
import Derived.Test.YtpbmdbahkpfkdaaGreatDoorMg17
import Derived.Test.YtpbmdbahkpfkdaaGreatDoorMg18
set_option linter.unusedVariables false
set_option linter.unusedSimpArgs false
namespace Go.Proofs.YtpbmdbahkpfkdaaGreatDoor
open Go.RowKit
section
variable {P:Program} {G:Glob}
def closKM (P:Program) (G:Glob) (d:Option Nat) (r:List SOper) (K:St→Prop) (f:Nat→V) (h:Heap) (u:Nat→Bool) (F:Nat) (pre:Option (List Cp)) (post:Option (List Cp)):Prop :=
  match pre,post with | some a,some b=>aops P G r K ⟨updO f d (.w (.c (.cf F a b))),h,u⟩ | _,_=>False
theorem st_closM (d:Option Nat) (r:List SOper) (K:St→Prop) (f:Nat→V) (h:Heap) (u:Nat→Bool) (F:Nat) (xs ys:List SX):aops P G (⟨d,.closM F xs ys,none⟩::r) K ⟨f,h,u⟩=closKM P G d r K f h u F (capPs (xs.map (ev G f))) (capPs (ys.map (ev G f))):=by
  show (match (match capPs (xs.map (ev G f)),capPs (ys.map (ev G f)) with | some a,some b=>some (((.w (.c (.cf F a b)),h,u):R)) | _,_=>none) with | some r=>_ | none=>False)=_
  unfold closKM
  cases capPs (xs.map (ev G f)) <;> cases capPs (ys.map (ev G f)) <;> rfl
theorem closKM_do (d:Option Nat) (r:List SOper) (K:St→Prop) (f:Nat→V) (h:Heap) (u:Nat→Bool) (F:Nat) (a b:List Cp):closKM P G d r K f h u F (some a) (some b)=aops P G r K ⟨updO f d (.w (.c (.cf F a b))),h,u⟩:=rfl
theorem capPs_nil:capPs []=some []:=rfl
theorem capPs_ptr (id sz i o:Nat) (r:List V):capPs (.w (.c (.ptr id sz i o))::r)=(capPs r).map fun l=>.p id sz i o::l:=by
  simp only[capPs,capP]; cases capPs r <;> rfl
theorem capPs_rp (cs:List D) (r:List V):capPs (.w (.c (.rp cs))::r)=(capPs r).map fun l=>.d (.ref cs)::l:=by
  simp only[capPs,capP,capV]; cases capPs r <;> rfl
theorem capPs_int (k:IntKind) (n:Int) (r:List V):capPs (.w (.c (.d (.int k n)))::r)=(capPs r).map fun l=>.d (.int k n)::l:=by
  simp only[capPs,capP,capV]; cases capPs r <;> rfl
theorem capPs_sl (es:List D) (r:List V):capPs (.w (.c (.d (.sl es)))::r)=(capPs r).map fun l=>.d (.sl es)::l:=by
  simp only[capPs,capP,capV]; cases capPs r <;> rfl
theorem wmm:ProofOf (And.intro @st_closM (And.intro @closKM_do (And.intro @capPs_nil (And.intro @capPs_ptr (And.intro @capPs_rp (And.intro @capPs_int @capPs_sl)))))):=And.intro @st_closM (And.intro @closKM_do (And.intro @capPs_nil (And.intro @capPs_ptr (And.intro @capPs_rp (And.intro @capPs_int @capPs_sl)))))
end
end Go.Proofs.YtpbmdbahkpfkdaaGreatDoor
namespace Go.Proofs.YtpbmdbahkpfkdaaGreatDoor
open Go.RowKit
section
variable {P:Program} {G:Glob}
end
end Go.Proofs.YtpbmdbahkpfkdaaGreatDoor
