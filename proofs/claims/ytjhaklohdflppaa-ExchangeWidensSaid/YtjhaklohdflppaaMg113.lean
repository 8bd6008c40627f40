/- Texts of one's own, merged: from: Layer 11 on data: lists of spans: the reference's Common and SameSpans; world.Span. Own work. -/
import Derived.Test.YtjhaklohdflppaaMg19
import Derived.Test.YtjhaklohdflppaaMg112
import Derived.Test.YtjhaklohdflppaaMg111
set_option linter.unusedVariables false
set_option linter.unusedSimpArgs false
namespace Go.Proofs.Ytjhaklohdflppaa
open Go.RowKit

open IntWalk
def gp:a6:=⟨1,18,al [du 1 0,dc 2 false] (al [aN 3 0 1,aR 4 3,cN 5 19 4,oM 6 5,cM 7 1 1 6 true,cL 8 7 6 true,oG 9 (.call 19 [(.t 8)] none) 6 true,b7 10 6 9,oM 11 10,cM 12 0 1 11 true,cL 13 12 11 true,cM 14 1 1 11 true,cL 15 14 11 true,fa .leq 16 13 15 11 true,b7 17 11 16,oM 2 17] .ret),[(2,none)]⟩
theorem Af:aU Try.prog {} Try.f31=some gp:=by kernel_rfl
theorem AC (G:am) (a b:Int):bc Try.prog G 31 [.agg [.int .i64 a,.int .i64 b]] (.w (.c (.d (.bool (cQ (a,b)))))):=by
  refine bL Try.func31 Af rfl rfl ?_;rw[vh];cases h1:aE a
  ·simp only[gp,aA,ah,af,seval,iteOmega,toNatUp];refine sC (c7 G a) ?_;simp only[h1,ah,af,seval,iteOmega,toNatUp];exact aF
  ·cases h2:aE b
   ·simp only[gp,aA,ah,af,seval,iteOmega,toNatUp];refine sC (c7 G a) ?_;simp only[h1,ah,af,seval,iteOmega,toNatUp];refine sC (c7 G b) ?_;simp only[h2,ah,af,seval,iteOmega,toNatUp];exact aF
   ·by_cases h3:a≤b
    ·rw[decide_eq_true h3];simp only[gp,aA,ah,af,seval,iteOmega,toNatUp];refine sC (c7 G a) ?_;simp only[h1,ah,af,seval,iteOmega,toNatUp];refine sC (c7 G b) ?_;simp only[h2,ah,af,seval,iteOmega,toNatUp];exact aF
    ·rw[decide_eq_false h3];simp only[gp,aA,ah,af,seval,iteOmega,toNatUp];refine sC (c7 G a) ?_;simp only[h1,ah,af,seval,iteOmega,toNatUp];refine sC (c7 G b) ?_;simp only[h2,ah,af,seval,iteOmega,toNatUp];exact aF
end Go.Proofs.Ytjhaklohdflppaa
