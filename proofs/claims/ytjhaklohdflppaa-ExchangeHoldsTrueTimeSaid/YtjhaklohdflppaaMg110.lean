/- Texts of one's own, merged: from: Layer 15: drift,as functions of numbers. Pure. Own work. -/
import Derived.Below
set_option linter.unusedVariables false
set_option linter.unusedSimpArgs false
namespace Go.Proofs.Ytjhaklohdflppaa
def d6 (a b:Int):Int:=a / 2147483648*(b / 2147483648)+(a / 2147483648*(b%2147483648)+a%2147483648*(b%2147483648) / 2147483648) / 2147483648+(a%2147483648*(b / 2147483648)+(a / 2147483648*(b%2147483648)+a%2147483648*(b%2147483648) / 2147483648)%2147483648) / 2147483648
def d7 (a b:Int):Int:=(a%2147483648*(b / 2147483648)+(a / 2147483648*(b%2147483648)+a%2147483648*(b%2147483648) / 2147483648)%2147483648)%2147483648*2147483648+a%2147483648*(b%2147483648)%2147483648
theorem uk (a b:Int):d6 a b*4611686018427387904+d7 a b=a*b∧0≤d7 a b∧d7 a b<4611686018427387904:=by
  have ea:=Int.emod_add_mul_ediv a 2147483648;have eb:=Int.emod_add_mul_ediv b 2147483648;have hab:a*b=a%2147483648*(b%2147483648)+(a / 2147483648*(b%2147483648))*2147483648+(a%2147483648*(b / 2147483648))*2147483648+(a / 2147483648*(b / 2147483648))*4611686018427387904:=by
    have:a*b=(a%2147483648+2147483648*(a / 2147483648))*(b%2147483648+2147483648*(b / 2147483648)):=by rw[ea,eb]
    rw[this,Int.add_mul,Int.mul_add,Int.mul_add];generalize a%2147483648=x;generalize b%2147483648=y;generalize a / 2147483648=u;generalize b / 2147483648=v;have e1:x*(2147483648*v)=x*v*2147483648:=by rw[Int.mul_left_comm,Int.mul_comm]
    have e2:2147483648*u*y=u*y*2147483648:=by rw[Int.mul_assoc,Int.mul_comm]
    have e3:2147483648*u*(2147483648*v)=u*v*4611686018427387904:=by
      rw[Int.mul_assoc,Int.mul_left_comm u,← Int.mul_assoc,Int.mul_comm]; rfl
    rw[e1,e2,e3];omega
  unfold d6 d7;rw[hab];generalize a%2147483648*(b%2147483648)=P;generalize a / 2147483648*(b%2147483648)=Q;generalize a%2147483648*(b / 2147483648)=R;generalize a / 2147483648*(b / 2147483648)=T;omega
theorem B6 (a b c d:Int):(d6 a b<d6 c d∨d6 a b=d6 c d∧d7 a b≤d7 c d)↔a*b≤c*d:=by
  obtain⟨h1,h2,h3⟩:=uk a b;obtain⟨k1,k2,k3⟩:=uk c d;rw[← h1,← k1];generalize d6 a b=A at *
  generalize d7 a b=B at *
  generalize d6 c d=C at *
  generalize d7 c d=D at *
  omega
def dS (e d p:Int):Prop:=e*(1000000000-p)≤d*1000000000∧d*1000000000≤e*(1000000000+p)
theorem um (e d p:Int):dS e d p↔e*1000000000-e*p≤d*1000000000∧d*1000000000≤e*1000000000+e*p:=by
  unfold dS;rw[Int.mul_sub,Int.mul_add]
theorem lZ {e p:Int} (he:0≤e) (hp:0≤p):dS e e p:=by
  rw[um];have:=Int.mul_nonneg he hp;omega
theorem uo {e d f c p:Int} (h:dS e d p) (k:dS f c p):dS (e+f) (d+c) p:=by
  rw[um] at h k ⊢;rw[Int.add_mul,Int.add_mul,Int.add_mul];omega
def dp (x c:Int):Int := -(-x / c)
theorem iL {x c:Int} (hc:0<c) {y:Int}:dp x c≤y↔x≤y*c:=by
  unfold dp;have h : -x / c ≥ -y ↔ -y*c ≤ -x:=Int.le_ediv_iff_mul_le hc;rw[Int.neg_mul] at h;omega
def fR (d p:Int):Int:=d*1000000000 / (1000000000+p)
def cI (d p:Int):Int:=dp (d*1000000000) (1000000000-p)
def bp (e p:Int):Int:=e*(1000000000-p) / 1000000000
def aT (e p:Int):Int:=dp (e*(1000000000+p)) 1000000000
theorem Bj (a b:Int) {c:Int} (hc:0<c):a / c*b+(a-a / c*c)*b / c=a*b / c:=by
  have e:=Int.emod_add_mul_ediv a c;have h1:a*b=(a-a / c*c)*b+a / c*b*c:=by
    rw[Int.sub_mul,Int.mul_right_comm (a / c) b c]; omega
  rw[h1,Int.add_mul_ediv_right _ _ (by omega)];omega
theorem Bl (a b:Int) {c:Int} (hc:0<c):a / c*b+dp ((a-a / c*c)*b) c=dp (a*b) c:=by
  have h1 : -(a*b) = -((a-a / c*c)*b) + -(a / c*b)*c:=by
    rw[Int.sub_mul,Int.neg_mul,Int.mul_right_comm (a / c) b c]; omega
  unfold dp;rw[h1,Int.add_mul_ediv_right _ _ (by omega)];omega
theorem wS {e d p:Int} (hp:p≤1000000) (h0:0≤p) (h:dS e d p):fR d p≤e∧e≤cI d p:=by
  obtain⟨h1,h2⟩:=h;constructor
  ·have:d*1000000000 / (1000000000+p)<e+1:=(Int.ediv_lt_iff_lt_mul (by omega)).2 (by
     rw[Int.add_mul]; omega)
   unfold fR; omega
  ·unfold cI;rcases Int.lt_or_le (dp (d*1000000000) (1000000000-p)) e with k | k
   ·exfalso;have:=(iL (x:=d*1000000000) (c:=1000000000-p) (by omega) (y:=e-1)).1 (by omega);rw[Int.sub_mul] at this;omega
   ·exact k
theorem jX {e d p:Int} (h:dS e d p):bp e p≤d∧d≤aT e p:=by
  obtain⟨h1,h2⟩:=h;unfold bp aT;constructor
  ·have:=Int.ediv_le_ediv (c:=1000000000) (by decide) h1;rw[Int.mul_ediv_cancel _ (by decide)] at this;exact this
  ·rcases Int.lt_or_le (dp (e*(1000000000+p)) 1000000000) d with k | k
   ·exfalso;have:=(iL (x:=e*(1000000000+p)) (c:=1000000000) (by decide) (y:=d-1)).1 (by omega);omega
   ·exact k
theorem se (d p:Int) (hd:0≤d) (h0:0≤p) (hp:p≤1000000):0≤fR d p∧fR d p≤d∧d≤cI d p:=by
  have f:=wS hp h0 (lZ hd h0);refine⟨?_,f.1,f.2⟩;unfold fR;exact Int.ediv_nonneg (by omega) (by omega)
theorem wT (d p:Int) (hd:0≤d) (h0:0≤p) (hp:p≤1000000):cI d p≤2*d:=by
  unfold cI;rw[iL (by omega)];have h1:2*d*(1000000000-p)=2*(d*1000000000)-2*(d*p):=by
    rw[Int.mul_sub,Int.mul_assoc,Int.mul_assoc]
  have h2:d*p≤d*1000000:=Int.mul_le_mul_of_nonneg_left hp hd;omega
theorem sg (e p:Int) (he:0≤e) (h0:0≤p) (hp:p≤1000000):0≤bp e p∧bp e p≤e∧e≤aT e p∧aT e p≤2*e:=by
  have f:=jX (lZ he h0);refine⟨?_,f.1,f.2,?_⟩
  ·unfold bp;exact Int.ediv_nonneg (Int.mul_nonneg he (by omega)) (by decide)
  ·unfold aT;rw[iL (by decide)];have h2:e*p≤e*1000000:=Int.mul_le_mul_of_nonneg_left hp he;rw[Int.mul_add];omega
section
variable {α:Type}
end
structure Eh (P:Int→Bool) (lo hi:Int) (s:Int×Int):Prop where
  a:lo≤s.1
  b:s.1≤s.2
  c:s.2≤hi
  no:∀ t,lo≤t→t<s.1→P t=false
  yes:s.2<hi→P s.2=true
abbrev fS:=Int×Int
def Ea (t:Int) (p:fS):Prop:=p.1≤t∧t≤p.2
def jm (t:Int) (l:List fS):Prop:=∃ p∈l,Ea t p
def xZ:List fS→Prop
  | []=>True
  | p::r=>p.1≤p.2∧(∀ q∈r,p.2+2≤q.1)∧xZ r
structure Eb where
  hi:Int
  again:Bool
  left:List fS
structure Ef (L h:Int) (rest:List fS) (s:Eb):Prop where
  lo:L≤s.hi
  ge:h≤s.hi
  mem:∀ p∈s.left,p∈rest
  len:s.left.length≤rest.length
  cov:∀ t,(L≤t∧t≤s.hi)∨jm t s.left↔(L≤t∧t≤h)∨jm t rest
  gap:s.again=false→∀ p∈s.left,s.hi+2≤p.1
structure Ec where
  rest:List fS
  out:List fS
structure Eg (l:List fS) (u:Ec):Prop where
  ok:∀ p∈u.rest,p.1≤p.2
  mem:∀ p∈u.rest,p∈l
  norm:xZ u.out
  gap:∀ p∈u.out,∀ q∈u.rest,p.2+2≤q.1
  cov:∀ t,jm t u.out∨jm t u.rest↔jm t l
  len:u.rest.length+u.out.length≤l.length
def eP (p:fS):Bool:=decide (-1152921504606846976≤p.1∧p.2≤1152921504606846976∧p.1≤p.2)
end Go.Proofs.Ytjhaklohdflppaa
