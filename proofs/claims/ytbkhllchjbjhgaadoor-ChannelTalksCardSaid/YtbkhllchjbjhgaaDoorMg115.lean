/- Texts of one's own, merged: from: Layer 17,without code: extension fields,their sizes and bytes,and what is read of bytes. Own work. -/
import Derived.Test.YtbkhllchjbjhgaaDoorMg110
import Derived.Test.YtbkhllchjbjhgaaDoorMg19
set_option linter.unusedVariables false
set_option linter.unusedSimpArgs false
namespace Go.Proofs.YtbkhllchjbjhgaaDoor
open Go.RowKit
structure Fd where
  ty:Int
  da:List UInt8
deriving DecidableEq,Inhabited
def fdD (f:Fd):D:=.agg [.int .i64 f.ty,.sl (f.da.map bD)]
def fdF (f:Fd):Prop:=fitI f.ty∧f.da.length≤maxLen
theorem is_fields {x:D} (h:IsSh (.sl [.int .i64,.sl [.int .u8]]) x):∃ l:List Fd,x=.sl (l.map fdD)∧l.length≤maxLen∧∀ f∈l,fdF f:=by
  cases x <;> simp only[IsSh] at h
  rename_i es
  obtain⟨h1,h2⟩:=h
  have key:∀ es:List D,(∀ e∈es,([Sh.int .i64,Sh.sl [.int .u8]].length=1→e.one=true)∧([Sh.int .i64,Sh.sl [.int .u8]].length≠1→e=.agg e.cells)∧IsShs [.int .i64,.sl [.int .u8]] e.cells)→∃ l:List Fd,es=l.map fdD∧∀ f∈l,fdF f:=by
    intro es
    induction es with
    | nil=>intro _; exact⟨[],rfl,fun p hp=>by cases hp⟩
    | cons e r ih =>
      intro h
      obtain⟨l,hl,hf⟩:=ih fun x hx=>h x (List.mem_cons_of_mem _ hx)
      obtain⟨_,h4,h5⟩:=h e List.mem_cons_self
      have h4:=h4 (by decide)
      obtain⟨a,c1,e1,ha,h5⟩:=shs_cons h5
      obtain⟨b,c2,e2,hb,h5⟩:=shs_cons h5
      have e3:=shs_nil h5
      obtain⟨n,rfl,n1,n2⟩:=is_i64 ha
      obtain⟨m,rfl,m1⟩:=is_bytes hb
      refine⟨⟨n,m⟩::l,?_,fun p hp=>?_⟩
      ·rw[List.map_cons,← hl,h4,e1,e2,e3]; rfl
      ·rcases List.mem_cons.1 hp with rfl | hp
       ·exact⟨⟨n1,n2⟩,m1⟩
       ·exact hf p hp
  obtain⟨l,rfl,hf⟩:=key es h2
  exact⟨l,rfl,by simpa using h1,hf⟩
end Go.Proofs.YtbkhllchjbjhgaaDoor
