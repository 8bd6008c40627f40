/- Texts of one's own, merged: from: Layer 15: drift,as functions of numbers. Pure. Own work. -/
import Derived.Below
set_option linter.unusedVariables false
set_option linter.unusedSimpArgs false
namespace Go.Proofs.Ytjhaklohdflppaa
def fI (e d p:Int):Prop:=e*(1000000000-p)≤d*1000000000∧d*1000000000≤e*(1000000000+p)
theorem zx (e d p:Int):fI e d p↔e*1000000000-e*p≤d*1000000000∧d*1000000000≤e*1000000000+e*p:=by
  unfold fI;rw[Int.mul_sub,Int.mul_add]
theorem yH {e p:Int} (he:0≤e) (hp:0≤p):fI e e p:=by
  rw[zx];have:=Int.mul_nonneg he hp;omega
def cP (x c:Int):Int := -(-x / c)
theorem ig {x c:Int} (hc:0<c) {y:Int}:cP x c≤y↔x≤y*c:=by
  unfold cP;have h : -x / c ≥ -y ↔ -y*c ≤ -x:=Int.le_ediv_iff_mul_le hc;rw[Int.neg_mul] at h;omega
def eK (d p:Int):Int:=d*1000000000 / (1000000000+p)
def bH (d p:Int):Int:=cP (d*1000000000) (1000000000-p)
theorem yI (a b:Int) {c:Int} (hc:0<c):a / c*b+(a-a / c*c)*b / c=a*b / c:=by
  have e:=Int.emod_add_mul_ediv a c;have h1:a*b=(a-a / c*c)*b+a / c*b*c:=by
    rw[Int.sub_mul,Int.mul_right_comm (a / c) b c]; omega
  rw[h1,Int.add_mul_ediv_right _ _ (by omega)];omega
theorem yJ (a b:Int) {c:Int} (hc:0<c):a / c*b+cP ((a-a / c*c)*b) c=cP (a*b) c:=by
  have h1 : -(a*b) = -((a-a / c*c)*b) + -(a / c*b)*c:=by
    rw[Int.sub_mul,Int.neg_mul,Int.mul_right_comm (a / c) b c]; omega
  unfold cP;rw[h1,Int.add_mul_ediv_right _ _ (by omega)];omega
theorem z9 {e d p:Int} (hp:p≤1000000) (h0:0≤p) (h:fI e d p):eK d p≤e∧e≤bH d p:=by
  obtain⟨h1,h2⟩:=h;constructor
  ·have:d*1000000000 / (1000000000+p)<e+1:=(Int.ediv_lt_iff_lt_mul (by omega)).2 (by
     rw[Int.add_mul]; omega)
   unfold eK; omega
  ·unfold bH;rcases Int.lt_or_le (cP (d*1000000000) (1000000000-p)) e with k | k
   ·exfalso;have:=(ig (x:=d*1000000000) (c:=1000000000-p) (by omega) (y:=e-1)).1 (by omega);rw[Int.sub_mul] at this;omega
   ·exact k
theorem jO (d p:Int) (hd:0≤d) (h0:0≤p) (hp:p≤1000000):0≤eK d p∧eK d p≤d∧d≤bH d p:=by
  have f:=z9 hp h0 (yH hd h0);refine⟨?_,f.1,f.2⟩;unfold eK;exact Int.ediv_nonneg (by omega) (by omega)
theorem ub (d p:Int) (hd:0≤d) (h0:0≤p) (hp:p≤1000000):bH d p≤2*d:=by
  unfold bH;rw[ig (by omega)];have h1:2*d*(1000000000-p)=2*(d*1000000000)-2*(d*p):=by
    rw[Int.mul_sub,Int.mul_assoc,Int.mul_assoc]
  have h2:d*p≤d*1000000:=Int.mul_le_mul_of_nonneg_left hp hd;omega
section
variable {α:Type}
end
structure Be (P:Int→Bool) (lo hi:Int) (s:Int×Int):Prop where
  a:lo≤s.1
  b:s.1≤s.2
  c:s.2≤hi
  no:∀ t,lo≤t→t<s.1→P t=false
  yes:s.2<hi→P s.2=true
abbrev eA:=Int×Int
def A8 (t:Int) (p:eA):Prop:=p.1≤t∧t≤p.2
def gK (t:Int) (l:List eA):Prop:=∃ p∈l,A8 t p
def vg:List eA→Prop
  | []=>True
  | p::r=>p.1≤p.2∧(∀ q∈r,p.2+2≤q.1)∧vg r
structure A9 where
  hi:Int
  again:Bool
  left:List eA
structure Bb (L h:Int) (rest:List eA) (s:A9):Prop where
  lo:L≤s.hi
  ge:h≤s.hi
  mem:∀ p∈s.left,p∈rest
  len:s.left.length≤rest.length
  cov:∀ t,(L≤t∧t≤s.hi)∨gK t s.left↔(L≤t∧t≤h)∨gK t rest
  gap:s.again=false→∀ p∈s.left,s.hi+2≤p.1
structure Ba where
  rest:List eA
  out:List eA
structure Bc (l:List eA) (u:Ba):Prop where
  ok:∀ p∈u.rest,p.1≤p.2
  mem:∀ p∈u.rest,p∈l
  norm:vg u.out
  gap:∀ p∈u.out,∀ q∈u.rest,p.2+2≤q.1
  cov:∀ t,gK t u.out∨gK t u.rest↔gK t l
  len:u.rest.length+u.out.length≤l.length
def cQ (p:eA):Bool:=decide (-1152921504606846976≤p.1∧p.2≤1152921504606846976∧p.1≤p.2)
end Go.Proofs.Ytjhaklohdflppaa
