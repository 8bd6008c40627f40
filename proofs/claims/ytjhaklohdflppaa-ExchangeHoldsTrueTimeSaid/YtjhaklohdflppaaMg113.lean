/- Texts of one's own, merged: from: Layer 11 on data: lists of spans: the reference's Common and SameSpans; world.Span. Own work. -/
import Derived.Test.YtjhaklohdflppaaMg19
import Derived.Test.YtjhaklohdflppaaMg112
import Derived.Test.YtjhaklohdflppaaMg111
set_option linter.unusedVariables false
set_option linter.unusedSimpArgs false
namespace Go.Proofs.Ytjhaklohdflppaa
open Go.RowKit

open IntWalk
def iQ:aV:=⟨1,18,am [eM 1 0,dk 2 false] (am [aA 3 0 1,aH 4 3,dV 5 19 4,oM 6 5,cQ 7 1 1 6 true,cP 8 7 6 true,oG 9 (.call 19 [(.t 8)] none) 6 true,bP 10 6 9,oM 11 10,cQ 12 0 1 11 true,cP 13 12 11 true,cQ 14 1 1 11 true,cP 15 14 11 true,dU .leq 16 13 15 11 true,bP 17 11 16,oM 2 17] .ret),[(2,none)]⟩
theorem C1:aR Try.prog {} Try.f31=some iQ:=by kernel_rfl
theorem Dz (G:av) (a b:Int):bd Try.prog G 31 [.agg [.int .i64 a,.int .i64 b]] (.w (.c (.d (.bool (eP (a,b)))))):=by
  refine bI Try.func31 C1 rfl rfl ?_;rw[x9];cases h1:aP a
  ·simp only[iQ,aw,ah,af,seval,iteOmega,toNatUp];refine sC (d8 G a) ?_;simp only[h1,ah,af,seval,iteOmega,toNatUp];exact aF
  ·cases h2:aP b
   ·simp only[iQ,aw,ah,af,seval,iteOmega,toNatUp];refine sC (d8 G a) ?_;simp only[h1,ah,af,seval,iteOmega,toNatUp];refine sC (d8 G b) ?_;simp only[h2,ah,af,seval,iteOmega,toNatUp];exact aF
   ·by_cases h3:a≤b
    ·rw[decide_eq_true h3];simp only[iQ,aw,ah,af,seval,iteOmega,toNatUp];refine sC (d8 G a) ?_;simp only[h1,ah,af,seval,iteOmega,toNatUp];refine sC (d8 G b) ?_;simp only[h2,ah,af,seval,iteOmega,toNatUp];exact aF
    ·rw[decide_eq_false h3];simp only[iQ,aw,ah,af,seval,iteOmega,toNatUp];refine sC (d8 G a) ?_;simp only[h1,ah,af,seval,iteOmega,toNatUp];refine sC (d8 G b) ?_;simp only[h2,ah,af,seval,iteOmega,toNatUp];exact aF
end Go.Proofs.Ytjhaklohdflppaa
