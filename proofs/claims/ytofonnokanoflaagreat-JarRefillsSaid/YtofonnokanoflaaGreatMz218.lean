/- Texts of one's own, merged: from: SHA-256 by numbers,in lanes of 64 bits (the kernel counts with great numbers). Pure. Own work. -/
import Derived.Test.YtofonnokanoflaaGreatMz210
set_option linter.unusedVariables false
set_option linter.unusedSimpArgs false
namespace Go.Proofs.YtofonnokanoflaaGreat
open Go.RowKit
def pk (f:Nat→Nat):Nat→Nat
  | 0=>0
  | L+1=>2^(64*L)*f L+pk f L
theorem Pv {f:Nat→Nat} (hf:∀ s,f s<2^64):∀ L,pk f L<2^(64*L)
  | 0=>by simp[pk]
  | L+1=>by
    have ih:=Pv hf L;have h:=hf L;have e:2^(64*(L+1))=2^(64*L)*2^64:=by rw[← Nat.pow_add]; congr 1
    have:2^(64*L)*f L+2^(64*L)≤2^(64*L)*2^64:=by
      rw[← Nat.mul_succ]; exact Nat.mul_le_mul_left _ h
    rw[pk,e]; omega
theorem iR {f:Nat→Nat} (hf:∀ s,f s<2^64):∀ (L j:Nat),(pk f L).testBit j=(decide (j / 64<L)&&(f (j / 64)).testBit (j%64))
  | 0,j=>by simp[pk]
  | L+1,j=>by
    rw[pk,Nat.testBit_two_pow_mul_add _ (Pv hf L)];by_cases h:j<64*L
    ·rw[if_pos h,iR hf L j];rw[decide_eq_true (show j / 64<L by omega),decide_eq_true (show j / 64<L+1 by omega)]
    ·rw[if_neg h];by_cases h2:j / 64=L
     ·rw[h2,decide_eq_true (Nat.lt_succ_self L),adD]
      congr 1; omega
     ·rw[decide_eq_false (show ¬ j / 64<L+1 by omega),Bool.false_and];refine Nat.testBit_lt_two_pow (Nat.lt_of_lt_of_le (hf L) (Nat.pow_le_pow_right (by decide) (by omega)))
theorem gQ {f g:Nat→Nat}:∀ {L:Nat},(∀ s,s<L→f s=g s)→pk f L=pk g L
  | 0,_=>rfl
  | L+1,h=>by rw[pk,pk,h L (Nat.lt_succ_self L),gQ fun s hs=>h s (by omega)]
theorem iS (f g:Nat→Nat):∀ L,Nat.add (pk f L) (pk g L)=pk (fun s=>Nat.add (f s) (g s)) L
  | 0=>rfl
  | L+1=>by
    have ih:=iS f g L
    show (2^(64*L)*f L+pk f L)+(2^(64*L)*g L+pk g L)=2^(64*L)*(f L+g L)+pk _ L
    rw[← ih,Nat.mul_add]
    show _=_+(pk f L+pk g L)
    omega
theorem BP (f:Nat→Nat) (c:Nat):∀ L,Nat.mul (pk f L) c=pk (fun s=>Nat.mul (f s) c) L
  | 0=>adn c
  | L+1=>by
    have ih:=BP f c L
    show (2^(64*L)*f L+pk f L)*c=2^(64*L)*(f L*c)+pk _ L
    rw[← ih,ack,Nat.mul_assoc]; rfl
theorem vU (f:Nat→Nat) (c L:Nat):Nat.mul c (pk f L)=pk (fun s=>Nat.mul c (f s)) L:=by
  show c*pk f L=_
  rw[adm];refine (BP f c L).trans (gQ fun s _=>adm _ _)
theorem z9 {a b:Nat} (ha:a<2^64) (hb:b<2^64):Nat.xor a b<2^64:=Nat.xor_lt_two_pow ha hb
theorem vk {a b:Nat} (ha:a<2^64):Nat.land a b<2^64:=acT Nat.and_le_left ha
theorem sP {f g:Nat→Nat} (hf:∀ s,f s<2^64) (hg:∀ s,g s<2^64) (L:Nat):Nat.xor (pk f L) (pk g L)=pk (fun s=>Nat.xor (f s) (g s)) L:=by
  show pk f L ^^^ pk g L=_
  refine Nat.eq_of_testBit_eq fun j=>?_
  rw[acL,iR hf,iR hg,iR (fun s=>z9 (hf s) (hg s))]
  show _=(_&&(f (j / 64) ^^^ g (j / 64)).testBit _)
  rw[acL];cases decide (j / 64<L) <;> simp
theorem wG {f g:Nat→Nat} (hf:∀ s,f s<2^64) (hg:∀ s,g s<2^64) (L:Nat):Nat.land (pk f L) (pk g L)=pk (fun s=>Nat.land (f s) (g s)) L:=by
  show pk f L &&& pk g L=_
  refine Nat.eq_of_testBit_eq fun j=>?_
  rw[Nat.testBit_and,iR hf,iR hg,iR (fun s=>vk (hf s))]
  show _=(_&&(f (j / 64) &&& g (j / 64)).testBit _)
  rw[Nat.testBit_and];cases decide (j / 64<L) <;> simp
def jQ:Nat:=4294967295
theorem sd (j:Nat):jQ.testBit j=decide (j<32):=Nat.testBit_two_pow_sub_one 32 j
theorem m64 (s:Nat):(fun _:Nat=>jQ) s<2^64:=by show jQ<_; decide
def nv (m x y:Nat) (a b c:Nat):Nat:=Nat.land (Nat.xor (Nat.xor (Nat.shiftRight x a) (Nat.shiftRight x b)) (Nat.shiftRight y c)) m
theorem pF (m x y a b c j:Nat):(nv m x y a b c).testBit j=((((x.testBit (a+j)) ^^ (x.testBit (b+j))) ^^ (y.testBit (c+j)))&&m.testBit j):=by
  show (((x >>> a ^^^ x >>> b) ^^^ y >>> c) &&& m).testBit j=_
  simp only[Nat.testBit_and,acL,Nat.testBit_shiftRight]
theorem sQ (x y a b c:Nat):nv jQ x y a b c<2^32:=acT Nat.and_le_right (by decide)
theorem wH {f g:Nat→Nat} (hf:∀ s,f s<2^64) (hg:∀ s,g s<2^64) {a b c:Nat} (ha:a≤32) (hb:b≤32) (hc:c≤32) (L:Nat):nv (pk (fun _=>jQ) L) (pk f L) (pk g L) a b c=pk (fun s=>nv jQ (f s) (g s) a b c) L:=by
  refine Nat.eq_of_testBit_eq fun j=>?_
  rw[pF,iR hf,iR hf,iR hg,iR m64,iR (fun s=>Nat.lt_trans (sQ _ _ _ _ _) (by decide)),pF,sd];by_cases h:j%64<32
  ·rw[show (a+j) / 64=j / 64 by omega,show (b+j) / 64=j / 64 by omega,show (c+j) / 64=j / 64 by omega,show (a+j)%64=a+j%64 by omega,show (b+j)%64=b+j%64 by omega,show (c+j)%64=c+j%64 by omega];cases decide (j / 64<L) <;> simp
  ·rw[decide_eq_false h]; simp
def jI (x:Nat):Nat:=Nat.mul x 4294967297
def tQ (m x:Nat):Nat:=nv m (jI x) (jI x) 6 11 25
def tR (m x:Nat):Nat:=nv m (jI x) (jI x) 2 13 22
def tS (m x:Nat):Nat:=nv m (jI x) x 7 18 3
def tT (m x:Nat):Nat:=nv m (jI x) x 17 19 10
def xY (e f g:Nat):Nat:=Nat.xor g (Nat.land e (Nat.xor f g))
def xZ (a b c:Nat):Nat:=Nat.xor (Nat.land a (Nat.xor b c)) (Nat.land b c)
theorem WF {x:Nat} (hx:x<2^32) (j:Nat):(jI x).testBit j=if j<32 then x.testBit j else x.testBit (j-32):=by
  have e:jI x=2^32*x+x:=by show x*4294967297=_; omega
  rw[e,Nat.testBit_two_pow_mul_add _ hx]
theorem BQ {x:Nat} (hx:x<2^32) {j:Nat} (h:32≤j):x.testBit j=false:=Nat.testBit_lt_two_pow (Nat.lt_of_lt_of_le hx (Nat.pow_le_pow_right (by decide) h))
theorem kR (x:UInt32) {r:Nat} (h0:0<r) (h:r<32) {j:Nat} (hj:j<32):(jh x r).toNat.testBit j=(jI x.toNat).testBit (r+j):=by
  have hx:x.toNat<2^32:=x.toNat_lt;rw[WF hx];unfold jh my mj lj;rw[UInt32.toNat_or,UInt32.toNat_ofNat',UInt32.toNat_ofNat',Nat.testBit_or,Nat.testBit_mod_two_pow,Nat.testBit_mod_two_pow,decide_eq_true hj,adD,adD,Nat.testBit_div_two_pow,adm,Nat.testBit_two_pow_mul];by_cases hr:r+j<32
  ·rw[if_pos hr,decide_eq_false (show ¬ j≥32-r by omega),Nat.add_comm]; simp
  ·rw[if_neg hr,decide_eq_true (show j≥32-r by omega),adD,BQ hx (by omega),Bool.false_or]
   congr 1; omega
theorem Lb (x:UInt32) {r j:Nat} (hj:j<32):(mj x r).toNat.testBit j=x.toNat.testBit (r+j):=by
  unfold mj;rw[UInt32.toNat_ofNat',Nat.testBit_mod_two_pow,decide_eq_true hj,adD,Nat.testBit_div_two_pow,Nat.add_comm]
theorem pT {x:Nat} {y:UInt32} (h:∀ j,j<32→x.testBit j=y.toNat.testBit j) (hx:x<2^32):x=y.toNat:=by
  refine Nat.eq_of_testBit_eq fun j=>?_
  by_cases hj:j<32
  ·exact h j hj
  ·rw[BQ hx (by omega),BQ y.toNat_lt (by omega)]
theorem aaY (x:UInt32):tQ jQ x.toNat=(lu x).toNat:=by
  refine pT (fun j hj=>?_) (sQ _ _ _ _ _);unfold tQ lu fA;rw[pF,UInt32.toNat_xor,UInt32.toNat_xor,acL,acL,kR x (by decide) (by decide) hj,kR x (by decide) (by decide) hj,kR x (by decide) (by decide) hj,sd,decide_eq_true hj,adC]
theorem aaZ (x:UInt32):tR jQ x.toNat=(mo x).toNat:=by
  refine pT (fun j hj=>?_) (sQ _ _ _ _ _);unfold tR mo fA;rw[pF,UInt32.toNat_xor,UInt32.toNat_xor,acL,acL,kR x (by decide) (by decide) hj,kR x (by decide) (by decide) hj,kR x (by decide) (by decide) hj,sd,decide_eq_true hj,adC]
theorem aa0 (x:UInt32):tS jQ x.toNat=(l4 x).toNat:=by
  refine pT (fun j hj=>?_) (sQ _ _ _ _ _);unfold tS l4 fA;rw[pF,UInt32.toNat_xor,UInt32.toNat_xor,acL,acL,kR x (by decide) (by decide) hj,kR x (by decide) (by decide) hj,Lb x hj,sd,decide_eq_true hj,adC]
theorem aa1 (x:UInt32):tT jQ x.toNat=(l5 x).toNat:=by
  refine pT (fun j hj=>?_) (sQ _ _ _ _ _);unfold tT l5 fA;rw[pF,UInt32.toNat_xor,UInt32.toNat_xor,acL,acL,kR x (by decide) (by decide) hj,kR x (by decide) (by decide) hj,Lb x hj,sd,decide_eq_true hj,adC]
theorem WG (x:UInt32) {j:Nat} (hj:j<32):(qx x).toNat.testBit j=!x.toNat.testBit j:=by
  have h:=x.toNat_lt;unfold qx;rw[UInt32.toNat_ofNat_of_lt' (by simp[UInt32.size]; omega),show 4294967295-x.toNat=2^32-(x.toNat+1) by omega,Nat.testBit_two_pow_sub_succ h,decide_eq_true hj,adD]
theorem aa2 (e f g:UInt32):xY e.toNat f.toNat g.toNat=(lE e f g).toNat:=by
  have he:e.toNat<2^32:=e.toNat_lt;have hf:f.toNat<2^32:=f.toNat_lt;have hg:g.toNat<2^32:=g.toNat_lt;refine pT (fun j hj=>?_) (Nat.xor_lt_two_pow hg (acT Nat.and_le_left he))
  show (g.toNat ^^^ (e.toNat &&& (f.toNat ^^^ g.toNat))).testBit j=_
  unfold lE fA li;rw[UInt32.toNat_xor,UInt32.toNat_and,UInt32.toNat_and];simp only[acL,Nat.testBit_and,WG e hj];cases e.toNat.testBit j <;> cases f.toNat.testBit j <;> cases g.toNat.testBit j <;> rfl
theorem aa3 (a b c:UInt32):xZ a.toNat b.toNat c.toNat=(mq a b c).toNat:=by
  have ha:a.toNat<2^32:=a.toNat_lt;have hb:b.toNat<2^32:=b.toNat_lt;refine pT (fun j hj=>?_) (Nat.xor_lt_two_pow (acT Nat.and_le_left ha) (acT Nat.and_le_left hb))
  show ((a.toNat &&& (b.toNat ^^^ c.toNat)) ^^^ (b.toNat &&& c.toNat)).testBit j=_
  unfold mq fA li;simp only[UInt32.toNat_xor,UInt32.toNat_and,acL,Nat.testBit_and];cases a.toNat.testBit j <;> cases b.toNat.testBit j <;> cases c.toNat.testBit j <;> rfl
structure E8 where
  (a b c d e f g h:Nat)
def kN:List Nat:=[0x428a2f98,0x71374491,0xb5c0fbcf,0xe9b5dba5,0x3956c25b,0x59f111f1,0x923f82a4,0xab1c5ed5,0xd807aa98,0x12835b01,0x243185be,0x550c7dc3,0x72be5d74,0x80deb1fe,0x9bdc06a7,0xc19bf174,0xe49b69c1,0xefbe4786,0x0fc19dc6,0x240ca1cc,0x2de92c6f,0x4a7484aa,0x5cb0a9dc,0x76f988da,0x983e5152,0xa831c66d,0xb00327c8,0xbf597fc7,0xc6e00bf3,0xd5a79147,0x06ca6351,0x14292967,0x27b70a85,0x2e1b2138,0x4d2c6dfc,0x53380d13,0x650a7354,0x766a0abb,0x81c2c92e,0x92722c85,0xa2bfe8a1,0xa81a664b,0xc24b8b70,0xc76c51a3,0xd192e819,0xd6990624,0xf40e3585,0x106aa070,0x19a4c116,0x1e376c08,0x2748774c,0x34b0bcb5,0x391c0cb3,0x4ed8aa4a,0x5b9cca4f,0x682e6ff3,0x748f82ee,0x78a5636f,0x84c87814,0x8cc70208,0x90befffa,0xa4506ceb,0xbef9a3f7,0xc67178f2]
theorem aa4:kN=dS.map UInt32.toNat:=by decide
noncomputable def tF (T:Nat→Nat→Nat→Nat→Nat→Nat→Nat) (A:Nat→Nat→Nat→Nat→Nat) (E:Nat→Nat→Nat) (N:Nat→Nat→Nat→Nat→Nat) (ks:List Nat):Nat→Nat→Nat→Nat→Nat→Nat→Nat→Nat→Nat→Nat→Nat→Nat→Nat→Nat→Nat→Nat→Nat→Nat→Nat→Nat→Nat→Nat→Nat→Nat→E8 :=
  @List.rec Nat (fun _=>Nat→Nat→Nat→Nat→Nat→Nat→Nat→Nat→Nat→Nat→Nat→Nat→Nat→Nat→Nat→Nat→Nat→Nat→Nat→Nat→Nat→Nat→Nat→Nat→E8)
    (fun a b c d e f g h _ _ _ _ _ _ _ _ _ _ _ _ _ _ _ _=>E8.mk a b c d e f g h)
    (fun k _ ih a b c d e f g h w0 w1 w2 w3 w4 w5 w6 w7 w8 w9 w10 w11 w12 w13 w14 w15=>(fun t1=>ih (A t1 a b c) a b c (E d t1) e f g w1 w2 w3 w4 w5 w6 w7 w8 w9 w10 w11 w12 w13 w14 w15 (N w0 w1 w9 w14)) (T k h w0 e f g)) ks
section
variable (T:Nat→Nat→Nat→Nat→Nat→Nat→Nat) (A:Nat→Nat→Nat→Nat→Nat) (E:Nat→Nat→Nat) (N:Nat→Nat→Nat→Nat→Nat) (a b c d e f g h w0 w1 w2 w3 w4 w5 w6 w7 w8 w9 w10 w11 w12 w13 w14 w15:Nat)
theorem R9 (k:Nat) (ks:List Nat):tF T A E N (k::ks) a b c d e f g h w0 w1 w2 w3 w4 w5 w6 w7 w8 w9 w10 w11 w12 w13 w14 w15=tF T A E N ks (A (T k h w0 e f g) a b c) a b c (E d (T k h w0 e f g)) e f g w1 w2 w3 w4 w5 w6 w7 w8 w9 w10 w11 w12 w13 w14 w15 (N w0 w1 w9 w14):=rfl
end
def TN (one m k h w e f g:Nat):Nat:=Nat.add (Nat.add h (Nat.add w (Nat.mul k one))) (Nat.add (tQ m e) (xY e f g))
def AN (m t a b c:Nat):Nat:=Nat.land (Nat.add t (Nat.add (tR m a) (xZ a b c))) m
def EN (m d t:Nat):Nat:=Nat.land (Nat.add d t) m
def NN (m w0 w1 w9 w14:Nat):Nat:=Nat.land (Nat.add (Nat.add w0 (tS m w1)) (Nat.add w9 (tT m w14))) m
noncomputable def C8 (P:Nat→Nat→Nat) (s t:E8):E8 :=
  E8.rec (fun a b c d e f g h=>E8.rec (fun a' b' c' d' e' f' g' h'=>E8.mk (P a a') (P b b') (P c c') (P d d') (P e e') (P f f') (P g g') (P h h')) t) s
theorem WH (P:Nat→Nat→Nat) (a b c d e f g h a' b' c' d' e' f' g' h':Nat):C8 P (E8.mk a b c d e f g h) (E8.mk a' b' c' d' e' f' g' h')=E8.mk (P a a') (P b b') (P c c') (P d d') (P e e') (P f f') (P g g') (P h h'):=rfl
noncomputable def PW (T:Nat→Nat→Nat→Nat→Nat→Nat→Nat) (A:Nat→Nat→Nat→Nat→Nat) (E:Nat→Nat→Nat) (N:Nat→Nat→Nat→Nat→Nat) (ks:List Nat) (s:E8) (w0 w1 w2 w3 w4 w5 w6 w7 w8 w9 w10 w11 w12 w13 w14 w15:Nat):E8 :=
  E8.rec (fun a b c d e f g h=>tF T A E N ks a b c d e f g h w0 w1 w2 w3 w4 w5 w6 w7 w8 w9 w10 w11 w12 w13 w14 w15) s
theorem WI (T:Nat→Nat→Nat→Nat→Nat→Nat→Nat) (A:Nat→Nat→Nat→Nat→Nat) (E:Nat→Nat→Nat) (N:Nat→Nat→Nat→Nat→Nat) (ks:List Nat) (a b c d e f g h w0 w1 w2 w3 w4 w5 w6 w7 w8 w9 w10 w11 w12 w13 w14 w15:Nat):PW T A E N ks (E8.mk a b c d e f g h) w0 w1 w2 w3 w4 w5 w6 w7 w8 w9 w10 w11 w12 w13 w14 w15=tF T A E N ks a b c d e f g h w0 w1 w2 w3 w4 w5 w6 w7 w8 w9 w10 w11 w12 w13 w14 w15:=rfl
noncomputable def C9 (one m:Nat) (s:E8) (w0 w1 w2 w3 w4 w5 w6 w7 w8 w9 w10 w11 w12 w13 w14 w15:Nat):E8:=C8 (EN m) s (PW (TN one m) (AN m) (EN m) (NN m) kN s w0 w1 w2 w3 w4 w5 w6 w7 w8 w9 w10 w11 w12 w13 w14 w15)
def pw (x:Nat→UInt32) (L:Nat):Nat:=pk (fun s=>(x s).toNat) L
abbrev gn (L:Nat):Nat:=pk (fun _=>1) L
abbrev gE (L:Nat):Nat:=pk (fun _=>jQ) L
theorem gv (x:UInt32):x.toNat<2^64:=Nat.lt_trans x.toNat_lt (by decide)
theorem qn (x:UInt32):jI x.toNat<2^64:=by
  have:=x.toNat_lt
  show x.toNat*4294967297<_
  omega
theorem wI (x:Nat→UInt32) (L:Nat):jI (pw x L)=pk (fun s=>jI (x s).toNat) L:=BP _ _ _
theorem ZJ (x:Nat→UInt32) (L:Nat):tQ (gE L) (pw x L)=pw (fun s=>lu (x s)) L:=by
  unfold tQ;rw[wI,wH (fun s=>qn _) (fun s=>qn _) (by decide) (by decide) (by decide)];exact gQ fun s _=>aaY (x s)
theorem ZK (x:Nat→UInt32) (L:Nat):tR (gE L) (pw x L)=pw (fun s=>mo (x s)) L:=by
  unfold tR;rw[wI,wH (fun s=>qn _) (fun s=>qn _) (by decide) (by decide) (by decide)];exact gQ fun s _=>aaZ (x s)
theorem ZL (x:Nat→UInt32) (L:Nat):tS (gE L) (pw x L)=pw (fun s=>l4 (x s)) L:=by
  unfold tS;rw[wI];unfold pw;rw[wH (fun s=>qn _) (fun s=>gv _) (by decide) (by decide) (by decide)];exact gQ fun s _=>aa0 (x s)
theorem ZM (x:Nat→UInt32) (L:Nat):tT (gE L) (pw x L)=pw (fun s=>l5 (x s)) L:=by
  unfold tT;rw[wI];unfold pw;rw[wH (fun s=>qn _) (fun s=>gv _) (by decide) (by decide) (by decide)];exact gQ fun s _=>aa1 (x s)
theorem ZN (e f g:Nat→UInt32) (L:Nat):xY (pw e L) (pw f L) (pw g L)=pw (fun s=>lE (e s) (f s) (g s)) L:=by
  unfold xY pw;rw[sP (fun s=>gv _) (fun s=>gv _),wG (fun s=>gv _) (fun s=>z9 (gv _) (gv _)),sP (fun s=>gv _) (fun s=>vk (gv _))];exact gQ fun s _=>aa2 (e s) (f s) (g s)
theorem ZO (a b c:Nat→UInt32) (L:Nat):xZ (pw a L) (pw b L) (pw c L)=pw (fun s=>mq (a s) (b s) (c s)) L:=by
  unfold xZ pw;rw[sP (fun s=>gv _) (fun s=>gv _),wG (fun s=>gv _) (fun s=>z9 (gv _) (gv _)),wG (fun s=>gv _) (fun s=>gv _),sP (fun s=>vk (gv _)) (fun s=>vk (gv _))];exact gQ fun s _=>aa3 (a s) (b s) (c s)
theorem T2 (x:Nat):Nat.land x jQ=x%4294967296:=Nat.and_two_pow_sub_one_eq_mod x 32
theorem wJ {f:Nat→Nat} (hf:∀ s,f s<2^64) (L:Nat):Nat.land (pk f L) (gE L)=pk (fun s=>f s%4294967296) L:=by
  rw[wG hf m64];exact gQ fun s _=>T2 (f s)
def kD (S:cd) (k w:UInt32):Nat:=(S.h.toNat+(w.toNat+k.toNat))+((lu S.e).toNat+(lE S.e S.f S.g).toNat)
theorem aa5 (S:Nat→cd) (k:UInt32) (w:Nat→UInt32) (L:Nat):TN (gn L) (gE L) k.toNat (pw (fun s=>(S s).h) L) (pw w L) (pw (fun s=>(S s).e) L) (pw (fun s=>(S s).f) L) (pw (fun s=>(S s).g) L)=pk (fun s=>kD (S s) k (w s)) L:=by
  unfold TN;rw[ZJ,ZN,vU];unfold pw;rw[iS,iS,iS,iS];refine gQ fun s _=>?_
  show ((S s).h.toNat+((w s).toNat+k.toNat*1))+_=_
  rw[adc]; rfl
theorem Pw (S:cd) (k w:UInt32):kD S k w<21474836480:=by
  have h1:=S.h.toNat_lt;have h2:=w.toNat_lt;have h3:=k.toNat_lt;have h4:=(lu S.e).toNat_lt;have h5:=(lE S.e S.f S.g).toNat_lt;unfold kD;omega
theorem aa6 (S:cd) (k w:UInt32):(kD S k w+((mo S.a).toNat+(mq S.a S.b S.c).toNat))%4294967296=(S.step k w).a.toNat:=by
  show _=(bE (bE (bE (bE (bE S.h (lu S.e)) (lE S.e S.f S.g)) k) w) (bE (mo S.a) (mq S.a S.b S.c))).toNat
  unfold kD bE;simp only[UInt32.toNat_add];omega
theorem aa7 (S:cd) (k w:UInt32):(S.d.toNat+kD S k w)%4294967296=(S.step k w).e.toNat:=by
  show _=(bE S.d (bE (bE (bE (bE S.h (lu S.e)) (lE S.e S.f S.g)) k) w)).toNat
  unfold kD bE;simp only[UInt32.toNat_add];omega
theorem WJ (S:Nat→cd) (k:UInt32) (w:Nat→UInt32) (L:Nat):AN (gE L) (pk (fun s=>kD (S s) k (w s)) L) (pw (fun s=>(S s).a) L) (pw (fun s=>(S s).b) L) (pw (fun s=>(S s).c) L)=pw (fun s=>((S s).step k (w s)).a) L:=by
  unfold AN;rw[ZK,ZO];unfold pw;rw[iS,iS,wJ]
  ·exact gQ fun s _=>aa6 (S s) k (w s)
  ·intro s;have h1:=Pw (S s) k (w s);have h2:=(mo (S s).a).toNat_lt;have h3:=(mq (S s).a (S s).b (S s).c).toNat_lt
   show kD (S s) k (w s)+((mo (S s).a).toNat+(mq (S s).a (S s).b (S s).c).toNat)<_
   omega
theorem WK (S:Nat→cd) (k:UInt32) (w:Nat→UInt32) (L:Nat):EN (gE L) (pw (fun s=>(S s).d) L) (pk (fun s=>kD (S s) k (w s)) L)=pw (fun s=>((S s).step k (w s)).e) L:=by
  unfold EN pw;rw[iS,wJ]
  ·exact gQ fun s _=>aa7 (S s) k (w s)
  ·intro s;have h1:=Pw (S s) k (w s);have h2:=(S s).d.toNat_lt
   show (S s).d.toNat+kD (S s) k (w s)<_
   omega
def oz (w0 w1 w9 w14:UInt32):UInt32:=bE (bE (bE (l5 w14) w9) (l4 w1)) w0
theorem aa8 (w0 w1 w9 w14:UInt32):((w0.toNat+(l4 w1).toNat)+(w9.toNat+(l5 w14).toNat))%4294967296=(oz w0 w1 w9 w14).toNat:=by
  unfold oz bE;simp only[UInt32.toNat_add];omega
theorem WL (w0 w1 w9 w14:Nat→UInt32) (L:Nat):NN (gE L) (pw w0 L) (pw w1 L) (pw w9 L) (pw w14 L)=pw (fun s=>oz (w0 s) (w1 s) (w9 s) (w14 s)) L:=by
  unfold NN;rw[ZL,ZM];unfold pw;rw[iS,iS,iS,wJ]
  ·exact gQ fun s _=>aa8 _ _ _ _
  ·intro s;have h1:=(w0 s).toNat_lt;have h2:=(l4 (w1 s)).toNat_lt;have h3:=(w9 s).toNat_lt;have h4:=(l5 (w14 s)).toNat_lt
   show ((w0 s).toNat+(l4 (w1 s)).toNat)+((w9 s).toNat+(l5 (w14 s)).toNat)<_
   omega
def gF:cd→List UInt32→(Nat→UInt32)→cd
  | S,[],_=>S
  | S,k::ks,w=>gF (S.step k (w 0)) ks (fun t=>w (t+1))
theorem Oe (L:Nat):∀ (ks:List UInt32) (S:Nat→cd) (W:Nat→Nat→UInt32),(∀ t s,W (t+16) s=oz (W t s) (W (t+1) s) (W (t+9) s) (W (t+14) s)) →
    tF (TN (gn L) (gE L)) (AN (gE L)) (EN (gE L)) (NN (gE L)) (ks.map UInt32.toNat) (pw (fun s=>(S s).a) L) (pw (fun s=>(S s).b) L) (pw (fun s=>(S s).c) L) (pw (fun s=>(S s).d) L) (pw (fun s=>(S s).e) L) (pw (fun s=>(S s).f) L) (pw (fun s=>(S s).g) L) (pw (fun s=>(S s).h) L) (pw (W 0) L) (pw (W 1) L) (pw (W 2) L) (pw (W 3) L) (pw (W 4) L) (pw (W 5) L) (pw (W 6) L) (pw (W 7) L) (pw (W 8) L) (pw (W 9) L) (pw (W 10) L) (pw (W 11) L) (pw (W 12) L) (pw (W 13) L) (pw (W 14) L) (pw (W 15) L)=E8.mk (pw (fun s=>(gF (S s) ks (fun t=>W t s)).a) L) (pw (fun s=>(gF (S s) ks (fun t=>W t s)).b) L) (pw (fun s=>(gF (S s) ks (fun t=>W t s)).c) L) (pw (fun s=>(gF (S s) ks (fun t=>W t s)).d) L) (pw (fun s=>(gF (S s) ks (fun t=>W t s)).e) L) (pw (fun s=>(gF (S s) ks (fun t=>W t s)).f) L) (pw (fun s=>(gF (S s) ks (fun t=>W t s)).g) L) (pw (fun s=>(gF (S s) ks (fun t=>W t s)).h) L)
  | [],_,_,_=>rfl
  | k::ks,S,W,hW=>by
    have e0:=aa5 S k (W 0) L;have e1:=WJ S k (W 0) L;have e2:=WK S k (W 0) L;have e3:=WL (W 0) (W 1) (W 9) (W 14) L;have e4:(fun s=>oz (W 0 s) (W 1 s) (W 9 s) (W 14 s))=W 16:=funext fun s=>(hW 0 s).symm
    rw[e4] at e3;have ih:=Oe L ks (fun s=>(S s).step k (W 0 s)) (fun t=>W (t+1)) (fun t s=>hW (t+1) s);rw[abK,R9,e0,e1,e2,e3];exact ih
theorem D1 (k:UInt32):∀ (ks:List UInt32) (S:cd) (w:Nat→UInt32),gF S (ks++[k]) w=(gF S ks w).step k (w ks.length)
  | [],_,_=>rfl
  | _::ks,S,w=>D1 k ks (S.step _ (w 0)) (fun t=>w (t+1))
theorem Dy:∀ (ks:List UInt32) (S:cd) (w v:Nat→UInt32),(∀ t,t<ks.length→w t=v t)→gF S ks w=gF S ks v
  | [],_,_,_,_=>rfl
  | k::ks,S,w,v,h=>by
    rw[gF,gF,h 0 (by simp)];exact Dy ks _ _ _ fun t ht=>h (t+1) (by simpa using ht)
theorem Dz (S:cd) (ks w:List UInt32):∀ n,n≤ks.length→S.rounds ks w n=gF S (ks.take n) (fun t=>w.getD t 0)
  | 0,_=>rfl
  | n+1,h=>by
    rw[cd.rounds,Dz S ks w n (by omega),acN (by omega),D1,abN,acS (by omega),abI,abF (by omega)];rfl
theorem vl (b:List UInt8):∀ n,(dc b n).length=16+n
  | 0=>by unfold dc jx; simp
  | n+1=>by rw[dc,abJ,vl b n]; rfl
theorem zo (b:List UInt8) {j:Nat}:∀ (n d:Nat),j<16+n→(dc b (n+d)).getD j 0=(dc b n).getD j 0
  | _,0,_=>rfl
  | n,d+1,h=>by
    rw[← ac0,dc,abI,acg (by rw[vl]; omega),← abI,zo b n d h]
theorem oZ (b:List UInt8) {j m n:Nat} (h1:j<16+m) (h2:j<16+n):(dc b m).getD j 0=(dc b n).getD j 0:=by
  rcases Nat.le_total m n with h | h
  ·obtain⟨d,rfl⟩:=Nat.exists_eq_add_of_le h;exact (zo b m d h1).symm
  ·obtain⟨d,rfl⟩:=Nat.exists_eq_add_of_le h;exact zo b n d h2
def wS (b:List UInt8) (t:Nat):UInt32:=(dc b t).getD t 0
theorem ZP (b:List UInt8) (t:Nat):wS b (t+16)=oz (wS b t) (wS b (t+1)) (wS b (t+9)) (wS b (t+14)):=by
  have e:dc b (t+1)=dc b t++[od (dc b t) (16+t)]:=rfl;have key:(dc b (t+1)).getD (t+16) 0=od (dc b t) (16+t):=by
    rw[e,abI,acx (by rw[vl]; omega),vl,show t+16-(16+t)=0 by omega]; rfl
  unfold wS;rw[oZ b (show t+16<16+(t+16) by omega) (show t+16<16+(t+1) by omega),key];unfold od oz;rw[show 16+t-2=t+14 by omega,show 16+t-7=t+9 by omega,show 16+t-15=t+1 by omega,show 16+t-16=t by omega];rw[oZ b (show t+14<16+t by omega) (show t+14<16+(t+14) by omega),oZ b (show t+9<16+t by omega) (show t+9<16+(t+9) by omega),oZ b (show t+1<16+t by omega) (show t+1<16+(t+1) by omega)]
theorem aa9 (b:List UInt8) {t:Nat} (h:t<16):wS b t=cS b t:=by
  unfold wS;rw[oZ b (show t<16+t by omega) (show t<16+0 by omega)];unfold dc jx;rw[abI,acG,adr h]; rfl
theorem Qu (h:List UInt32) (b:List UInt8):(cd.of h).rounds dS (iV b) 64=gF (cd.of h) dS (wS b):=by
  rw[Dz _ _ _ 64 (by rw[ub]; omega)];have e:dS.take 64=dS:=abH (by rw[ub]; omega);rw[e];refine Dy _ _ _ _ fun t ht=>?_
  rw[ub] at ht
  show (dc b 48).getD t 0=(dc b t).getD t 0
  exact oZ b (by omega) (by omega)
def oE (H:Nat→List UInt32) (L:Nat):E8:=E8.mk (pw (fun s=>(H s).getD 0 0) L) (pw (fun s=>(H s).getD 1 0) L) (pw (fun s=>(H s).getD 2 0) L) (pw (fun s=>(H s).getD 3 0) L) (pw (fun s=>(H s).getD 4 0) L) (pw (fun s=>(H s).getD 5 0) L) (pw (fun s=>(H s).getD 6 0) L) (pw (fun s=>(H s).getD 7 0) L)
theorem ZQ (x y:Nat→UInt32) (L:Nat):EN (gE L) (pw x L) (pw y L)=pw (fun s=>bE (x s) (y s)) L:=by
  unfold EN pw;rw[iS,wJ]
  ·refine gQ fun s _=>?_
   unfold bE;rw[UInt32.toNat_add]; rfl
  ·intro s;have h1:=(x s).toNat_lt;have h2:=(y s).toNat_lt
   show (x s).toNat+(y s).toNat<_
   omega
theorem ZR (H:Nat→List UInt32) (b:Nat→List UInt8) (L:Nat):C9 (gn L) (gE L) (oE H L) (pw (fun s=>cS (b s) 0) L) (pw (fun s=>cS (b s) 1) L) (pw (fun s=>cS (b s) 2) L) (pw (fun s=>cS (b s) 3) L) (pw (fun s=>cS (b s) 4) L) (pw (fun s=>cS (b s) 5) L) (pw (fun s=>cS (b s) 6) L) (pw (fun s=>cS (b s) 7) L) (pw (fun s=>cS (b s) 8) L) (pw (fun s=>cS (b s) 9) L) (pw (fun s=>cS (b s) 10) L) (pw (fun s=>cS (b s) 11) L) (pw (fun s=>cS (b s) 12) L) (pw (fun s=>cS (b s) 13) L) (pw (fun s=>cS (b s) 14) L) (pw (fun s=>cS (b s) 15) L)=oE (fun s=>mU (H s) (b s)) L:=by
  have hw:∀ t,t<16→(fun s=>cS (b s) t)=(fun s=>wS (b s) t):=fun t ht=>funext fun s=>(aa9 (b s) ht).symm
  rw[hw 0 (by decide),hw 1 (by decide),hw 2 (by decide),hw 3 (by decide),hw 4 (by decide),hw 5 (by decide),hw 6 (by decide),hw 7 (by decide),hw 8 (by decide),hw 9 (by decide),hw 10 (by decide),hw 11 (by decide),hw 12 (by decide),hw 13 (by decide),hw 14 (by decide),hw 15 (by decide)];have hr:=Oe L dS (fun s=>cd.of (H s)) (fun t s=>wS (b s) t) (fun t s=>ZP (b s) t);unfold C9 oE;rw[WI,aa4];refine (congrArg (C8 (EN (gE L)) _) hr).trans ?_;rw[WH];simp only[ZQ];have hb:∀ s,mU (H s) (b s)=(gF (cd.of (H s)) dS (fun t=>wS (b s) t)).sum (H s):=fun s=>by
    unfold mU; rw[Qu]
  simp only[hb];rfl
def qH (b:List UInt8):Nat:=b.foldl (fun a x=>a*256+x.toNat) 0
theorem Sa (b:List UInt8) (x:UInt8):qH (b++[x])=qH b*256+x.toNat:=by unfold qH; rw[List.foldl_append]; rfl
theorem Aa (v:Nat):∀ n,qH (au v n)=v%256^n
  | 0=>by simp[au,qH,Nat.mod_one]
  | n+1=>by
    have e:au v (n+1)=au (v / 256) n++[UInt8.ofNat v]:=by
      unfold au;rw[ac8,abT]
      congr 1
      ·apply aco;intro i hi;have hi:=ads.1 hi;rw[show n+1-1-i=(n-1-i)+1 by omega,adH,adm,adu]
      ·simp
    rw[e,Sa,Aa (v / 256) n,UInt8.toNat_ofNat',show 256^(n+1)=256*256^n from Nat.pow_succ',Nat.mod_mul];omega
def Dm:E8:=E8.mk 0x6a09e667 0xbb67ae85 0x3c6ef372 0xa54ff53a 0x510e527f 0x9b05688c 0x1f83d9ab 0x5be0cd19
theorem FV (h:List UInt32) (b c:List UInt8):∀ n,64*n≤b.length→ew h (b++c) n=ew h b n
  | 0,_=>rfl
  | n+1,hn=>by
    rw[ew,ew,FV h b c n (by omega),adp (by omega),acz (by rw[abO]; omega)]
theorem Es (h:List UInt32) (p:List UInt8) (q:Nat):∀ m,ew (ew h p q) (p.drop (64*q)) m=ew h p (q+m)
  | 0=>rfl
  | m+1=>by
    rw[← ac0,ew,ew,Es h p q m,adE,Nat.mul_add]
def m5 (n:Nat):List UInt8:=[128]++List.replicate ((119-n%64)%64) 0++au (n*8) 8
theorem Sb (n:Nat):n+(m5 n).length=64*((n+8) / 64+1):=by
  unfold m5;simp only[abJ,ab3,bP,acI];omega
theorem T3 (b:List UInt8):ow b=iA (ew jb (b++m5 b.length) ((b.length+8) / 64+1)):=by
  have hl:=Sb b.length;have hd:64*(b.length / 64)≤b.length:=by omega
  have hp:jo (b.drop (64*(b.length / 64))) b.length=(b++m5 b.length).drop (64*(b.length / 64)):=by
    unfold jo m5;rw[adp hd,abO,show b.length-64*(b.length / 64)=b.length%64 by omega];simp only[abV]
  unfold ow nm;rw[hp,← FV jb b (m5 b.length) _ hd,Es,abO,abJ,hl]
  congr 2; omega

theorem wK (c:UInt32) (L:Nat):Nat.mul c.toNat (gn L)=pw (fun _=>c) L:=by
  rw[vU];exact gQ fun s _=>adc _
theorem WM (L:Nat):0=pw (fun _=>0) L:=by
  have:=wK 0 L;rw[← this]; exact (adn _).symm
def b4 (w:UInt32):List UInt8:=[UInt8.ofNat (w.toNat / 16777216),UInt8.ofNat (w.toNat / 65536),UInt8.ofNat (w.toNat / 256),UInt8.ofNat w.toNat]
theorem WN (w:UInt32):au w.toNat 4=b4 w:=by
  show [UInt8.ofNat (w.toNat / 16777216),UInt8.ofNat (w.toNat / 65536),UInt8.ofNat (w.toNat / 256),UInt8.ofNat (w.toNat / 1)]=_
  rw[Nat.div_one]; rfl
theorem n0 (w:UInt32):(UInt8.ofNat w.toNat).toNat=w.toNat%256:=UInt8.toNat_ofNat'
theorem n1 (w:UInt32):(UInt8.ofNat (w.toNat / 256)).toNat=w.toNat / 256%256:=UInt8.toNat_ofNat'
theorem n2 (w:UInt32):(UInt8.ofNat (w.toNat / 65536)).toNat=w.toNat / 65536%256:=UInt8.toNat_ofNat'
theorem n3 (w:UInt32):(UInt8.ofNat (w.toNat / 16777216)).toNat=w.toNat / 16777216%256:=UInt8.toNat_ofNat'
theorem ZS {p:List UInt8} {t:Nat} (h0:p.getD (4*t) 0=0) (h1:p.getD (4*t+1) 0=0) (h2:p.getD (4*t+2) 0=0) (h3:p.getD (4*t+3) 0=0):cS p t=0:=by
  rw[← UInt32.toNat_inj,uc,h0,h1,h2,h3]; rfl
theorem ZT {p:List UInt8} {t:Nat} {a b:UInt8} {c:UInt32} (h0:p.getD (4*t) 0=0) (h1:p.getD (4*t+1) 0=0) (h2:p.getD (4*t+2) 0=a) (h3:p.getD (4*t+3) 0=b) (hc:a.toNat*256+b.toNat=c.toNat):cS p t=c:=by
  rw[← UInt32.toNat_inj,uc,h0,h1,h2,h3,← hc];have z:(0:UInt8).toNat=0:=by decide
  simp only[z,adn,acR]
noncomputable def Da (one:Nat):E8:=E8.mk (Nat.mul 1779033703 one) (Nat.mul 3144134277 one) (Nat.mul 1013904242 one) (Nat.mul 2773480762 one) (Nat.mul 1359893119 one) (Nat.mul 2600822924 one) (Nat.mul 528734635 one) (Nat.mul 1541459225 one)
theorem ZU (L:Nat):Da (gn L)=oE (fun _=>jb) L:=by
  have h:=fun c=>wK c L
  unfold Da oE;exact (congr (congr (congr (congr (congr (congr (congr (congrArg E8.mk (h 1779033703)) (h 3144134277)) (h 1013904242)) (h 2773480762)) (h 1359893119)) (h 2600822924)) (h 528734635)) (h 1541459225))

noncomputable def qI {α:Type} (n:Nat) (k:Nat→α):α:=@Nat.rec (fun _=>α) (k 0) (fun m _=>k (Nat.succ m)) n
theorem sg {α:Type} (n:Nat) (k:Nat→α):qI n k=k n:=by cases n <;> rfl
theorem ZV {p:List UInt8} {t:Nat} {w:UInt32} (h0:(p.getD (4*t) 0).toNat=w.toNat / 16777216%256) (h1:(p.getD (4*t+1) 0).toNat=w.toNat / 65536%256) (h2:(p.getD (4*t+2) 0).toNat=w.toNat / 256%256) (h3:(p.getD (4*t+3) 0).toNat=w.toNat%256):cS p t=w:=by
  have:=w.toNat_lt;rw[← UInt32.toNat_inj,uc,h0,h1,h2,h3];omega
theorem ZW {p:List UInt8} {t:Nat} {w:UInt32} {a b c d:UInt8} (h0:p.getD (4*t) 0=a) (h1:p.getD (4*t+1) 0=b) (h2:p.getD (4*t+2) 0=c) (h3:p.getD (4*t+3) 0=d) (hc:((a.toNat*256+b.toNat)*256+c.toNat)*256+d.toNat=w.toNat):cS p t=w:=by
  rw[← UInt32.toNat_inj,uc,h0,h1,h2,h3,hc]
def jp (x:UInt32):List UInt8:=(au x.toNat 8++au 0 4)++m5 12
def tG (x:UInt32):List UInt32:=mU jb ((jp x).take 64)
theorem ZX (x:UInt32):au x.toNat 8=0::0::0::0::b4 x:=by
  have hx:=x.toNat_lt;have z:∀ k,4294967296≤k→UInt8.ofNat (x.toNat / k)=0:=fun k hk=>by
    rw[Nat.div_eq_of_lt (by omega)]; rfl
  have e:au x.toNat 8=[UInt8.ofNat (x.toNat / 72057594037927936),UInt8.ofNat (x.toNat / 281474976710656),UInt8.ofNat (x.toNat / 1099511627776),UInt8.ofNat (x.toNat / 4294967296)]++au x.toNat 4:=rfl;rw[e,WN,z _ (by decide),z _ (by decide),z _ (by decide),z _ (by decide)]; rfl
theorem aba (x:UInt32):nS x.toNat 0=iA (tG x):=by
  have h1:(au x.toNat 8++au 0 4).length=12:=by simp[bP]
  unfold nS;rw[T3,h1]; rfl
set_option maxRecDepth 20000 in
theorem xx (x:UInt32):(jp x).take 64=0::0::0::0::UInt8.ofNat (x.toNat / 16777216)::UInt8.ofNat (x.toNat / 65536)::UInt8.ofNat (x.toNat / 256)::UInt8.ofNat x.toNat::0::0::0::0::128::0::0::0::0::0::0::0::0::0::0::0::0::0::0::0::0::0::0::0::0::0::0::0::0::0::0::0::0::0::0::0::0::0::0::0::0::0::0::0::0::0::0::0::0::0::0::0::0::0::0::96::[]:=by
  have ht:m5 12=128::(List.replicate 50 0++[96]):=by decide
  have hz:au 0 4=[0,0,0,0]:=by decide
  have e:jp x=0::0::0::0::UInt8.ofNat (x.toNat / 16777216)::UInt8.ofNat (x.toNat / 65536)::UInt8.ofNat (x.toNat / 256)::UInt8.ofNat x.toNat::0::0::0::0::128::0::0::0::0::0::0::0::0::0::0::0::0::0::0::0::0::0::0::0::0::0::0::0::0::0::0::0::0::0::0::0::0::0::0::0::0::0::0::0::0::0::0::0::0::0::0::0::0::0::0::96::[]:=by
    unfold jp;rw[ZX,ht,hz];simp only[b4,acF,acE,List.replicate]
  rw[e]; rfl
set_option maxRecDepth 20000 in
theorem abb (x:UInt32):∀ t,t<15→t≠1→t≠3→cS ((jp x).take 64) t=0:=by
  intro t h1 h2 h3;rw[xx];have:t=0∨t=2∨t=4∨t=5∨t=6∨t=7∨t=8∨t=9∨t=10∨t=11∨t=12∨t=13∨t=14:=by omega
  rcases this with rfl | rfl | rfl | rfl | rfl | rfl | rfl | rfl | rfl | rfl | rfl | rfl | rfl <;> exact ZS rfl rfl rfl rfl
set_option maxRecDepth 20000 in
theorem abc (x:UInt32):cS ((jp x).take 64) 1=x:=by
  rw[xx]; exact ZV (n3 _) (n2 _) (n1 _) (n0 _)
set_option maxRecDepth 20000 in
theorem abd (x:UInt32):cS ((jp x).take 64) 3=2147483648:=by
  rw[xx]; exact ZW (a:=128) (b:=0) (c:=0) (d:=0) rfl rfl rfl rfl (by decide)
set_option maxRecDepth 20000 in
theorem abe (x:UInt32):cS ((jp x).take 64) 15=96:=by
  rw[xx]; exact ZT rfl rfl rfl rfl rfl
noncomputable def xP (one m X:Nat):E8:=C9 one m (Da one) 0 X 0 (Nat.mul 2147483648 one) 0 0 0 0 0 0 0 0 0 0 0 (Nat.mul 96 one)
theorem WO (x:Nat→UInt32) (L:Nat):xP (gn L) (gE L) (pw x L)=oE (fun s=>tG (x s)) L:=by
  have g:=ZR (fun _=>jb) (fun s=>(jp (x s)).take 64) L;have z:∀ t,t<15→t≠1→t≠3→(fun s=>cS ((jp (x s)).take 64) t)=fun _=>0:=fun t h1 h2 h3=>funext fun s=>abb (x s) t h1 h2 h3
  have v1:(fun s=>cS ((jp (x s)).take 64) 1)=x:=funext fun s=>abc (x s)
  have v3:(fun s=>cS ((jp (x s)).take 64) 3)=fun _=>2147483648:=funext fun s=>abd (x s)
  have ve:(fun s=>cS ((jp (x s)).take 64) 15)=fun _=>96:=funext fun s=>abe (x s)
  have c2:Nat.mul 2147483648 (gn L)=pw (fun _=>2147483648) L:=wK 2147483648 L;have c3:Nat.mul 96 (gn L)=pw (fun _=>96) L:=wK 96 L;rw[v1,v3,ve,z 0 (by decide) (by decide) (by decide),z 2 (by decide) (by decide) (by decide),z 4 (by decide) (by decide) (by decide),z 5 (by decide) (by decide) (by decide),z 6 (by decide) (by decide) (by decide),z 7 (by decide) (by decide) (by decide),z 8 (by decide) (by decide) (by decide),z 9 (by decide) (by decide) (by decide),z 10 (by decide) (by decide) (by decide),z 11 (by decide) (by decide) (by decide),z 12 (by decide) (by decide) (by decide),z 13 (by decide) (by decide) (by decide),z 14 (by decide) (by decide) (by decide),← WM,← ZU] at g;unfold xP;rw[c2,c3];exact g
inductive Tr where
  | lf (c:Nat)
  | nd (a b:Tr)
deriving DecidableEq
theorem ZY (x y:Nat→UInt32) (L:Nat):Nat.xor (pw x L) (pw y L)=pw (fun s=>fA (x s) (y s)) L:=by
  unfold pw;rw[sP (fun s=>gv _) (fun s=>gv _)];exact gQ fun s _=>(UInt32.toNat_xor _ _).symm
theorem Sc {x:Nat→UInt32} {L s:Nat} (h:Nat.beq (Nat.land (Nat.shiftRight (Nat.add (pw x L) (Nat.mul 4294967295 (gn L))) 32) (gn L)) (gn L)=true) (hs:s<L):x s≠0:=by
  intro h0;have e:=Nat.eq_of_beq_eq_true h;have h1:∀ s:Nat,(fun _:Nat=>1) s<2^64:=fun _=>(by decide:1<2^64)
  have hg:∀ s,Nat.add (x s).toNat (Nat.mul 4294967295 1)<2^64:=fun s=>by
    have:=(x s).toNat_lt
    show (x s).toNat+4294967295*1<_
    omega
  have e2:Nat.add (pw x L) (Nat.mul 4294967295 (gn L))=pk (fun s=>Nat.add (x s).toNat (Nat.mul 4294967295 1)) L:=by
    unfold pw;rw[vU,iS]
  rw[e2] at e;have e3:((pk (fun s=>Nat.add (x s).toNat (Nat.mul 4294967295 1)) L >>> 32) &&& gn L).testBit (64*s)=(gn L).testBit (64*s):=congrArg (fun n=>Nat.testBit n (64*s)) e;rw[Nat.testBit_and,Nat.testBit_shiftRight,iR hg,iR h1,show (32+64*s) / 64=s by omega,show (32+64*s)%64=32 by omega,show 64*s / 64=s by omega,show 64*s%64=0 by omega,decide_eq_true hs,h0] at e3
  revert e3
  decide
def t2:Tr:=.nd (.lf 0) (.lf 1)
def t23:Tr:=.nd (.lf 2) (.lf 3)
def t4:Tr:=.nd t2 t23
noncomputable def Dn (s:E8):Nat:=E8.rec (fun a _ _ _ _ _ _ _=>a) s
theorem abf (A:Nat→List UInt32) (L:Nat):Dn (oE A L)=pw (fun s=>(A s).getD 0 0) L:=rfl
def Db (on one a b:Nat):Bool:=Nat.beq (Nat.land (Nat.shiftRight (Nat.add (Nat.xor a b) on) 32) one) one
theorem WP {x y:Nat→UInt32} {L s:Nat} (h:Db (Nat.mul 4294967295 (gn L)) (gn L) (pw x L) (pw y L)=true) (hs:s<L):x s≠y s:=by
  intro e;unfold Db at h;rw[ZY] at h;refine Sc h hs ?_;rw[e];simp[fA]
noncomputable def tH (F:Nat→Nat) (D:Nat→Nat→Bool) (os:List Nat):List Nat→Bool :=
  @List.rec Nat (fun _=>List Nat→Bool) (fun _=>true) (fun o _ ih acc=>qI (F o) fun w=>cond (acc.all (D w)) (ih (w::acc)) false) os
theorem Sd (F:Nat→Nat) (D:Nat→Nat→Bool) (o:Nat) (os acc:List Nat):tH F D (o::os) acc=cond (acc.all (D (F o))) (tH F D os (F o::acc)) false:=sg (F o) fun w=>cond (acc.all (D w)) (tH F D os (w::acc)) false
theorem Lc {F:Nat→Nat} {D:Nat→Nat→Bool}:∀ {os acc:List Nat},tH F D os acc=true→os.Pairwise (fun a b=>D (F b) (F a)=true)∧∀ o∈os,∀ w∈acc,D (F o) w=true
  | [],_,_=>⟨List.Pairwise.nil,fun o ho=>by cases ho⟩
  | o::os,acc,h=>by
    rw[Sd] at h;cases hc:acc.all (D (F o)) with
    | false=>rw[hc,cond_false] at h; cases h
    | true =>
      rw[hc,cond_true] at h;obtain⟨h1,h2⟩:=Lc h;refine⟨List.Pairwise.cons (fun b hb=>h2 b hb _ (acv ..)) h1,fun b hb w hw=>?_⟩;rcases acm.1 hb with rfl | hb
      ·exact abZ.1 hc w hw
      ·exact h2 b hb w (ace _ hw)
def oF (x:Nat):UInt32:=(tG (UInt32.ofNat x)).getD 0 0
noncomputable def xQ (os:List Nat) (L:Nat):Bool:=qI (gn L) fun one=>qI (gE L) fun m=>qI (pk (fun s=>s) L) fun io=>qI (Nat.mul 4294967295 one) fun on=>tH (fun o=>Dn (xP one m (Nat.add io (Nat.mul o one)))) (Db on one) os []
theorem WQ {os:List Nat} {L:Nat} (h:xQ os L=true) (hL:L≤100000) (hos:∀ o∈os,o≤4000000000) {s:Nat} (hs:s<L):os.Pairwise fun a b=>oF (s+a)≠oF (s+b):=by
  unfold xQ at h;rw[sg,sg,sg,sg] at h;have h1:=(Lc h).1;have key:∀ o,o≤4000000000→Dn (xP (gn L) (gE L) (Nat.add (pk (fun s=>s) L) (Nat.mul o (gn L))))=pw (fun s=>oF (s+o)) L:=fun o ho=>by
    have e:Nat.add (pk (fun s=>s) L) (Nat.mul o (gn L))=pw (fun s=>UInt32.ofNat (s+o)) L:=by
      rw[vU,iS];refine gQ fun s hs=>?_
      rw[UInt32.toNat_ofNat_of_lt' (by simp only[UInt32.size]; omega)]
      show s+o*1=_
      omega
    rw[e,WO,abf];rfl
  refine List.Pairwise.imp_of_mem ?_ h1;intro a b ha hb hd;rw[key a (hos a ha),key b (hos b hb)] at hd;exact (WP hd hs).symm
theorem Ld {x n:Nat} (hx:x<4294967296) (hn:4≤n):(dF (x:Int) (n:Int)).take 4=au (oF x).toNat 4:=by
  have e1:((x:Int)%18446744073709551616).toNat=x:=by omega
  have e2:((n:Int).toNat+31) / 32=((n:Int).toNat+31) / 32-1+1:=by omega
  have e3:iQ x (((n:Int).toNat+31) / 32)=nS x 0++(((List.range (((n:Int).toNat+31) / 32-1)).map Nat.succ).map (nS x)).flatten:=by
    unfold iQ;rw[e2,List.range_succ_eq_map,abK,acn];rfl
  have hw:=aba (UInt32.ofNat x);rw[UInt32.toNat_ofNat_of_lt' (show x<UInt32.size by simp only[UInt32.size]; omega)] at hw;have hl:(tG (UInt32.ofNat x)).length=8:=Ep _ _;unfold dF;rw[e1,e3,hw,List.take_take,acS (by omega)];unfold oF
  match tG (UInt32.ofNat x),hl with
  | [a,b,c,d,e,f,g,i],_ =>
    unfold iA;simp only[ab0,abV];exact List.take_left' (bP _ _)
theorem ZZ {a b:UInt32} (h:au a.toNat 4=au b.toNat 4):a=b:=by
  have e:=congrArg qH h;rw[Aa,Aa,ac9 (show a.toNat<256^4 from a.toNat_lt),ac9 (show b.toNat<256^4 from b.toNat_lt)] at e;exact UInt32.toNat_inj.1 e
theorem abg {x y n m:Nat} (hx:x<4294967296) (hy:y<4294967296) (hn:4≤n) (hm:4≤m) (h:oF x≠oF y):(dF (x:Int) (n:Int)).take 4≠(dF (y:Int) (m:Int)).take 4:=by
  rw[Ld hx hn,Ld hy hm];exact fun e=>h (ZZ e)
def tU:List Nat:=(List.range 8).map fun i=>1000003*(i+1)
def of5:List Nat:=(List.range 100).map fun i=>5000000*(i+1)
def tV:List Nat:=(List.range 8).map fun i=>7000000*(i+1)
def of9:List Nat:=(List.range 11).map fun i=>9000000*(i+1)
set_option maxRecDepth 100000 in
theorem Z0:xQ (tU++tV) 1000=true:=by decide +kernel
theorem of_le:∀ o∈tU++(of5++(tV++of9)),o≤4000000000:=by decide +kernel
theorem abh {os:List Nat} (h:xQ os 1000=true) (hos:∀ o∈os,o≤4000000000) {s:Nat} (hs:s<1000):(os.map fun o=>dF ((s+o:Nat):Int) 104).Nodup:=by
  rw[List.nodup_iff_pairwise_ne,List.pairwise_map];refine (List.Pairwise.imp_of_mem ?_ (WQ h (by decide) hos hs));intro a b ha hb hab e;have h1:=hos a ha;have h2:=hos b hb;exact abg (n:=104) (m:=104) (by omega) (by omega) (by decide) (by decide) hab (congrArg (List.take 4) e)
theorem PX {s:Nat} (hs:s<1000):((tU++tV).map fun o=>dF ((s+o:Nat):Int) 104).Nodup:=abh Z0 (fun o ho=>of_le o (by
  rcases ab5.1 ho with h | h
  ·exact acb _ h
  ·exact abW _ (abW _ (acb _ h)))) hs
open IntWalk
def i5 (b:List UInt8) (at':Int):Nat:=(gy at' b.length).toNat
def nn (by':Int):UInt8:=UInt8.ofNat (1+(gy by' 255).toNat)
def po (b:List UInt8) (at' by':Int):List UInt8:=b.set (i5 b at') (ak (b.getD (i5 b at') 0) (nn by'))
theorem DC (b:List UInt8) (at' by':Int):(po b at' by').length=b.length:=acJ
theorem WU (by':Int):nn by'≠0:=by
  have h:=nx by' 255 (by decide)
  intro e;have:=congrArg UInt8.toNat e;unfold nn at this;rw[UInt8.toNat_ofNat_of_lt' (by simp[UInt8.size]; omega)] at this;simp at this
theorem Lg {b:List UInt8} (h:0<b.length) (at':Int):i5 b at'<b.length:=by
  have:=nx at' b.length (by omega);unfold i5; omega
theorem Qv {b:List UInt8} (h:0<b.length) (at' by':Int):po b at' by'≠b:=by
  intro e;have hi:=Lg h at';have h1:=congrArg (fun l:List UInt8=>l.getD (i5 b at') 0) e;simp only[po,abI,List.getElem?_set_self hi,Option.getD_some] at h1;apply WU by'
  generalize b[i5 b at']?.getD 0=x at h1;generalize nn by'=y at h1
  have:ak x (ak x y)=ak x x:=by rw[h1]
  have e1:ak x (ak x y)=y:=by unfold ak; rw[← UInt8.xor_assoc,UInt8.xor_self,UInt8.zero_xor]
  have e2:ak x x=0:=by unfold ak; exact UInt8.xor_self
  rw[← e1,this,e2]
def Og:aG:=⟨3,25,.seq (.reg [oO 6 (.mv (.k (.c .nil)))]) (.seq (.reg [oM 8 0,oO 9 (.bldSl false 1 1 (.sl []) [(0,(.t 8))]),oO 10 (.call 41 [(.t 9)] (some (0,1))),oM 7 10]) (.seq (.reg [oM 11 7,oM 12 1,oM 13 7,oO 14 (.len (.t 13)),oO 15 (.call 14 [(.t 12),(.t 14)] none),oO 16 (.idxSl 1 (.t 11) (.t 15)),oO 17 (.load .sc (.t 16)),oM 18 2,oO 19 (.call 14 [(.t 18),(kI 255)] none),oO 20 (.bin .add (kI 1) (.t 19)),oO 21 (.conv .u8 (.t 20)),oO 22 (.bin .xor (.t 17) (.t 21)),oO 23 (.idxSl 1 (.t 11) (.t 15)),oN (.store .sc (.t 23) (.t 22))]) (.seq (.reg [oM 24 7,oM 6 24]) (.ret)))),[(6,none)]⟩
theorem Z2:aF Tryz.prog { own:=[10],comp:=[],frz:=[],nils:=[] } Tryz.f23=some Og:=by kernel_rfl
set_option maxHeartbeats 1600000 in
theorem abl (G:ah) (b:List UInt8) (at' by':Int) (h:0<b.length) (hb:b.length≤140737488355328):aB Tryz.prog G 23 [.sl (b.map bD),.int .i64 at',.int .i64 by'] (.w (.c (.fr 1 ((po b at' by').map bD)))):=by
  refine aI Tryz.func23 Z2 rfl rfl ?_;have hj:=fR G [b] (by simp) (by simp; omega);have hf:[b].flatten=b:=by simp
  rw[hf] at hj;have hw:=nx at' b.length (by omega);have hw2:=nx by' 255 (by decide)
  have hi:=Lg h at';have ei:((i5 b at':Nat):Int)=gy at' b.length:=by unfold i5; omega
  have eb:bD (nn by')=.int .u8 (1+gy by' 255):=by
    unfold nn;rw[TE (by omega)]
    congr 1; omega
  have g1:b[i5 b at']?=some (b.getD (i5 b at') 0):=by rw[abI,abF hi]; rfl
  have x1:=dv (b.getD (i5 b at') 0) (nn by');rw[eb] at x1;have hs:b.set (i5 b at') (ak (b.getD (i5 b at') 0) (nn by'))=po b at' by':=rfl
  have e1:=pm G at' b.length (by omega);have e2:=pm G by' 255 (by decide)
  rw[← ei] at e1 hw;generalize gy by' 255=y at *
  generalize i5 b at'=i at *
  simp only[Og,af,ae,aa,seval,iteOmega,toNatUp];refine sD (hj) ?_;refine sC (e1) ?_;simp only[aD,g1,ae,aa,seval,iteOmega,toNatUp];refine sC (e2) ?_;simp only[x1,eo hi (d8 _),ft,hs,ae,aa,seval,iteOmega,toNatUp];exact eI (id:=80) (n:=b.length) (s:=1) (by simp only[wx,aa,seval,iteOmega,toNatUp]) (by simp only[wx,aa,seval,iteOmega,toNatUp]) (by simp[DC])
end Go.Proofs.YtofonnokanoflaaGreat
