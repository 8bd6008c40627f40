/- Texts of one's own, merged: from: world.Within on data: a number within bounds. Own work. -/
import Derived.Test.YtjhaklohdflppaaProg
import Derived.Test.YtjhaklohdflppaaMg17
set_option linter.unusedVariables false
set_option linter.unusedSimpArgs false
namespace Go.Proofs.Ytjhaklohdflppaa
open Go.RowKit
def bL (v m:Int):Int:=if m<1 then 0 else v%m
theorem cK (v m:Int) (h:1≤m):0≤bL v m∧bL v m<m:=by
  unfold bL;rw[if_neg (by omega)];exact⟨E4 _ (by omega),EZ _ (by omega)⟩
theorem Bo {v m:Int} (hm:0<m) (h:v.tmod m<0):v.tmod m+m=v%m:=by
  have h1:=Ft v m;have h2:=Int.tmod_add_mul_tdiv v m;have h3:=E4 v (show m≠0 by omega);have h4:=EZ v hm;have h5:=Int.lt_tmod_of_pos v hm;have e:m*(v.tdiv m-v / m)=v%m-v.tmod m:=by rw[Int.mul_sub]; omega
  have k1:v.tdiv m-v / m=1:=by
    rcases Int.lt_trichotomy (v.tdiv m-v / m) 1 with hlt | heq | hgt
    ·exfalso;have:v.tdiv m-v / m≤0:=by omega
     have:=ER this (show 0≤m by omega);omega
    ·exact heq
    ·exfalso;have:2≤v.tdiv m-v / m:=by omega
     have:=ER this (show 0≤m by omega);omega
  rw[k1] at e;omega
theorem Bp {v m:Int} (hm:0<m) (h:0≤v.tmod m):v.tmod m=v%m:=by
  have h1:=Ft v m;have h2:=Int.tmod_add_mul_tdiv v m;have h3:=E4 v (show m≠0 by omega);have h4:=EZ v hm;have h5:=Int.tmod_lt_of_pos v hm;have e:m*(v.tdiv m-v / m)=v%m-v.tmod m:=by rw[Int.mul_sub]; omega
  have k1:v.tdiv m-v / m=0:=by
    rcases Int.lt_trichotomy (v.tdiv m-v / m) 0 with hlt | heq | hgt
    ·exfalso;have:v.tdiv m-v / m ≤ -1:=by omega
     have:=ER this (show 0≤m by omega);omega
    ·exact heq
    ·exfalso;have:1≤v.tdiv m-v / m:=by omega
     have:=ER this (show 0≤m by omega);omega
  rw[k1] at e;omega
end Go.Proofs.Ytjhaklohdflppaa
