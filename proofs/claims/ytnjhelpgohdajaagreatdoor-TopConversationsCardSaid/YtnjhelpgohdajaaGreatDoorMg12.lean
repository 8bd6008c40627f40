/- Texts of one's own, merged: from: The plain logic (6): each operation does in memory what it does to the data: those that only reckon. Own work. -/
import Derived.Laws.Small
import Derived.Laws.Strings2
import Derived.Laws.Shifts
import Derived.Laws.Slices
import Derived.Laws.IdiomStrings
import Derived.Laws.Tables
import Derived.Laws.CopyOwn
import Derived.Laws.MakeOwn
import Derived.Deep.AppendSrc
import Derived.Test.YtnjhelpgohdajaaGreatDoorMg11
set_option linter.unusedVariables false
set_option linter.unusedSimpArgs false
namespace Go.Proofs.YtnjhelpgohdajaaGreatDoor
open Go.RowKit
section
variable {P:Program} {G:au} {N:Nat} {Sin:aT} {w0:Gh} {σ:St} {a:Act} {w:World} {S:aT} {m:Mp} {o:Oper} {K:St→Prop} {Q:Exit→Act→World→Prop}
def Nx (G:au) (N:Nat) (Sin:aT) (w0:Gh) (K:St→Prop) (a:Act) (w:World):Prop:=∃ σ S m,K σ∧Inv G N Sin w0 σ a w S m
theorem ahD {v:Value} {w':World} {K:Act→World→Prop} (h:(execOp a.eval o).run P w=.ok (.value v) w') (hk:K (a.put o.dst v) w'):o.wp P a w K Q:=by
  unfold Oper.wp; rw[h]; exact hk
theorem Ru {w':World} {K:Act→World→Prop} (h:(execOp a.eval o).run P w=.ok .skip w') (hk:K (a.put o.dst undef) w'):o.wp P a w K Q:=by
  unfold Oper.wp; rw[h]; exact hk
theorem fM {h':aI} {u':Nat→Bool} {w':World} {S':aT} {m':Mp} {v:Value} {x:V} (h:Inv G N Sin w0 ⟨σ.f,h',u'⟩ a w' S' m') (hd:∀ t,o.dst=some t→t<N∧w0.fx t=none) (hr:(execOp a.eval o).run P w=.ok (.value v) w')
    (hv:RV m' S' w' v x) (hx:∀ i∈x.ids,u' i=true) (hK:K (σ.put o.dst (x,h',u'))):o.wp P a w (Nx G N Sin w0 K) Q :=
  ahD hr ⟨_,_,_,hK,h.put o.dst hd hv hx⟩
theorem gg {v:Value} {x:V} (h:Inv G N Sin w0 σ a w S m) (hd:∀ t,o.dst=some t→t<N∧w0.fx t=none) (hr:(execOp a.eval o).run P w=.ok (.value v) w)
    (hv:RV m S w v x) (hx:∀ i∈x.ids,σ.u i=true) (hK:K (σ.put o.dst (x,σ.h,σ.u))):o.wp P a w (Nx G N Sin w0 K) Q :=
  fM (h':=σ.h) (u':=σ.u) h hd hr hv hx hK
theorem Reads.rw {v:Value} {x:D} (h:Reads S w v x):RW m S w v (.c (.d x)):=by
  cases x with
  | agg cs=>cases h
  | _=>exact h
theorem RC.rw {v:Value} {c:C} (h:RC m S w v c):RW m S w v (.c c):=by
  cases c with
  | d x=>exact Reads.rw h
  | _=>exact h
theorem i7 {v:Value} {x:D} (h:Inv G N Sin w0 σ a w S m) (hd:∀ t,o.dst=some t→t<N∧w0.fx t=none) (hr:(execOp a.eval o).run P w=.ok (.value v) w)
    (hv:Reads S w v x) (hK:K (σ.put o.dst (vd x,σ.h,σ.u))):o.wp P a w (Nx G N Sin w0 K) Q:=by
  exact gg h hd hr (x:=vd x) hv.rw (fun i hi=>by cases hi) hK
theorem oa {x:V} {v:Value} {k:IntKind} {n:Int} (h:RV m S w v x) (e:fV x=some (k,n)):v=.int k n:=by
  unfold fV at e;split at e
  ·cases e; cases h; rfl
  ·cases e
theorem yE {x:V} {v:Value} {b:Bool} (h:RV m S w v x) (e:eD x=some b):v=.bool b:=by
  unfold eD at e;split at e
  ·cases e; cases h; rfl
  ·cases e
theorem BX {x:V} {v:Value} {y:W} (h:RV m S w v x) (e:j9 x=some y):RW m S w v y∧x=.w y:=by
  unfold j9 at e;split at e
  ·cases e; exact⟨h,rfl⟩
  ·cases e
theorem dM {s:Sem Value} {v:Value} {w':World} (h:s.run P w=.ok v w'):(do let r ← s; pure (Next.value r):Sem Next).run P w=.ok (.value v) w':=by
  simp[h]
theorem Im {v:Value} {k:IntKind} {n:Int} (h:RV m S w v (.w (.c (.d (.int k n))))):v=.int k n:=by cases h; rfl
theorem acB {v:Value} {b:Bool} (h:RV m S w v (.w (.c (.d (.bool b))))):v=.bool b:=by cases h; rfl
theorem tB {v:Value} {s:ByteArray} (h:RV m S w v (.w (.c (.d (.str s))))):v=.string s:=by cases h; rfl
theorem ahE (x:Operand) (y:SX) (ho:o.op=.move x∨o.op=.assign x) (hx:be x=some y) (h:Inv G N Sin w0 σ a w S m) (hd:∀ t,o.dst=some t→t<N∧w0.fx t=none)
    (hK:K (σ.put o.dst (ev G σ.f y,σ.h,σ.u))):o.wp P a w (Nx G N Sin w0 K) Q:=by
  have hv:=h.operand hx;refine gg h hd ?_ hv.1 hv.2 hK;unfold execOp;rcases ho with ho | ho <;> rw[ho] <;> rfl
theorem Zb (c x y:Operand) (c' x' y':SX) (ho:o.op=.pick c x y) (hc:be c=some c') (hx:be x=some x') (hy:be y=some y') (h:Inv G N Sin w0 σ a w S m) (hd:∀ t,o.dst=some t→t<N∧w0.fx t=none)
    {t:Bool} (ht:eD (ev G σ.f c')=some t) (hK:K (σ.put o.dst (if t then ev G σ.f x' else ev G σ.f y',σ.h,σ.u))):o.wp P a w (Nx G N Sin w0 K) Q:=by
  have e:=yE (h.operand hc).1 ht;have h1:=h.operand hx;have h2:=h.operand hy;refine gg h hd (v:=if t then a.eval x else a.eval y) ?_ ?_ ?_ hK
  ·simp only[execOp,ho];simp[e,asBool]
  ·cases t
   ·exact h2.1
   ·exact h1.1
  ·cases t
   ·exact h2.2
   ·exact h1.2
theorem Zc (op:BinOp) (t:TypeId) (k k':IntKind) (x y:Int) {d:D} (h:cS op k x k' y=some d):∃ v,(binOp op t (.int k x) (.int k' y)).run P w=.ok v w∧Reads S w v d:=by
  unfold cS at h;split at h
  ·split at h
   ·rename_i h0;cases h;exact⟨_,by rw[binOp_shl,shift_shl_any _ _ _ _ h0]; rfl,.int _ _⟩
   ·cases h
  ·split at h
   ·rename_i h0;cases h;exact⟨_,by rw[binOp_shr,shift_shr_any _ _ _ _ h0]; rfl,.int _ _⟩
   ·cases h
  ·rename_i n1 n2;split at h
   ·cases h
   ·rename_i hk;have hk':k=k':=Decidable.not_not.1 hk;subst hk'
    cases op <;> simp only at h <;> first
      | (cases h; done)
      | (exact absurd rfl n1)
      | (exact absurd rfl n2)
      | (cases h; exact⟨_,by rw[binOp_add]; rfl,.int _ _⟩)
      | (cases h; exact⟨_,by rw[binOp_sub]; rfl,.int _ _⟩)
      | (cases h; exact⟨_,by rw[binOp_mul]; rfl,.int _ _⟩)
      | (cases h; exact⟨_,by rw[binOp_and]; rfl,.int _ _⟩)
      | (cases h; exact⟨_,by rw[binOp_or]; rfl,.int _ _⟩)
      | (cases h; exact⟨_,by rw[binOp_xor]; rfl,.int _ _⟩)
      | (cases h; exact⟨_,by rw[binOp_andNot]; rfl,.int _ _⟩)
      | (cases h; exact⟨_,by rw[binOp_eql]; rfl,.bool _⟩)
      | (cases h; exact⟨_,by rw[binOp_neq]; rfl,.bool _⟩)
      | (cases h; exact⟨_,by rw[binOp_lss]; rfl,.bool _⟩)
      | (cases h; exact⟨_,by rw[binOp_leq]; rfl,.bool _⟩)
      | (cases h; exact⟨_,by rw[binOp_gtr]; rfl,.bool _⟩)
      | (cases h; exact⟨_,by rw[binOp_geq]; rfl,.bool _⟩)
      | (split at h
         ·rename_i hb;cases h
          first
            | exact⟨_,by rw[binOp_quo]; simp only[Op.intDiv,hb,if_false]; rfl,.int _ _⟩
            | exact⟨_,by rw[binOp_rem]; simp only[Op.intDiv,hb,if_false]; rfl,.int _ _⟩
         ·cases h)
theorem Zd (op:BinOp) (t:TypeId) (x y:ByteArray) {d:D} (h:pH op x y=some d):∃ v,(binOp op t (.string x) (.string y)).run P w=.ok v w∧Reads S w v d:=by
  unfold pH at h;have e:binOp op t (.string x) (.string y)=Op.stringOp op x y:=by cases op <;> rfl
  rw[e]
  cases op <;> simp only at h <;> first
    | (cases h; done)
    | (cases h; exact⟨_,rfl,.bool _⟩)
    | (split at h
       ·rename_i hb;cases h;have hn:¬ (((x.size+y.size:Nat):Int)>IntKind.i64.max):=by rw[IntKind.max_i64]; omega
        exact⟨_,by simp only[Op.stringOp,if_neg hn]; rfl,.str _⟩
       ·cases h)
theorem acC (op:BinOp) (t t':TypeId) (x y:Operand) (x' y':SX) (ho:o.op=.binOp op t x y t') (hx:be x=some x') (hy:be y=some y') (h:Inv G N Sin w0 σ a w S m) (hd:∀ t,o.dst=some t→t<N∧w0.fx t=none)
    {d:D} (hb:db op (ev G σ.f x') (ev G σ.f y')=some d) (hK:K (σ.put o.dst (vd d,σ.h,σ.u))):o.wp P a w (Nx G N Sin w0 K) Q:=by
  have h1:=(h.operand hx).1;have h2:=(h.operand hy).1;unfold db at hb;split at hb
  ·rename_i k n k' n' e1 e2;rw[e1] at h1;rw[e2] at h2;obtain⟨v,hr,hv⟩:=Zc (P:=P) (w:=w) (S:=S) op t _ _ _ _ hb;refine i7 h hd ?_ hv hK;simp only[execOp,ho,Im h1,Im h2,eqGuard_at_int];exact dM (by simpa using hr)
  ·rename_i s s' e1 e2;rw[e1] at h1;rw[e2] at h2;obtain⟨v,hr,hv⟩:=Zd (P:=P) (w:=w) (S:=S) op t _ _ hb;refine i7 h hd ?_ hv hK;simp only[execOp,ho,tB h1,tB h2,eqGuard_at_string];exact dM (by simpa using hr)
  ·cases hb
theorem acD (neg:Bool) (op:BinOp) (hop:op=if neg then .neq else .eql) (t t':TypeId) (ht:P.underlying t=some .bool) (x y:Operand) (x' y':SX) (ho:o.op=.binOp op t x y t') (hx:be x=some x') (hy:be y=some y') (h:Inv G N Sin w0 σ a w S m) (hd:∀ t,o.dst=some t→t<N∧w0.fx t=none)
    {p q:Bool} (hp:eD (ev G σ.f x')=some p) (hq:eD (ev G σ.f y')=some q) (hK:K (σ.put o.dst (vd (.bool (if neg then !(p==q) else (p==q))),σ.h,σ.u))):o.wp P a w (Nx G N Sin w0 K) Q:=by
  have e1:=yE (h.operand hx).1 hp;have e2:=yE (h.operand hy).1 hq;refine i7 h hd ?_ (.bool _) hK;simp only[execOp,ho,e1,e2,eqGuard_at_bool];grind [dM,run_eql_bool,run_neq_bool]
theorem ahF (op:UnOp) (t:TypeId) (x:Operand) (x':SX) (ho:o.op=.unOp op t x) (hx:be x=some x') (h:Inv G N Sin w0 σ a w S m) (hd:∀ t,o.dst=some t→t<N∧w0.fx t=none)
    {d:D} (hb:pS op (ev G σ.f x')=some d) (hK:K (σ.put o.dst (vd d,σ.h,σ.u))):o.wp P a w (Nx G N Sin w0 K) Q:=by
  have h1:=(h.operand hx).1;have key:∃ v,(Op.unary op (a.eval x)).run P w=.ok v w∧Reads S w v d:=by
    unfold pS at hb;split at hb
    ·rename_i k n e1;rw[e1] at h1;rw[Im h1]
     cases op <;> simp only at hb <;> first
       | (cases hb; done)
       | (cases hb; exact⟨_,rfl,.int _ _⟩)
    ·rename_i b e1;rw[e1] at h1;rw[acB h1]
     cases op <;> simp only at hb <;> first
       | (cases hb; done)
       | (cases hb; exact⟨_,rfl,.bool _⟩)
    ·cases hb
  obtain⟨v,hr,hv⟩:=key;refine i7 h hd ?_ hv hK;simp only[execOp,ho];exact dM hr
theorem Ze (s d:TypeId) (k k0:IntKind) (hs:P.underlying s=some (.int k0)) (hdst:P.underlying d=some (.int k)) (x:Operand) (x':SX) (ho:o.op=.convert s d x) (hx:be x=some x') (h:Inv G N Sin w0 σ a w S m) (hd:∀ t,o.dst=some t→t<N∧w0.fx t=none)
    {k':IntKind} {n:Int} (hb:fV (ev G σ.f x')=some (k',n)) (hK:K (σ.put o.dst (vd (.int k (k.wrap n)),σ.h,σ.u))):o.wp P a w (Nx G N Sin w0 K) Q:=by
  have e:=oa (h.operand hx).1 hb;refine i7 h hd ?_ (.int _ _) hK;simp only[execOp,ho,e];refine dM ?_;simp[convert,run_underlying hs,run_underlying hdst,Conv.intToInt]
theorem V0 (x:Operand) (x':SX) (i:Nat) (ho:o.op=.extract x i) (hx:be x=some x') (h:Inv G N Sin w0 σ a w S m) (hd:∀ t,o.dst=some t→t<N∧w0.fx t=none)
    {ws:List W} (e:ev G σ.f x'=.tup ws) {y:W} (hy:ws[i]?=some y) (hK:K (σ.put o.dst (.w y,σ.h,σ.u))):o.wp P a w (Nx G N Sin w0 K) Q:=by
  have h1:=h.operand hx;rw[e] at h1;obtain⟨⟨us,e1,h2⟩,h3⟩:=h1;obtain⟨u,hu,hr⟩:=h2.get? hy;refine gg h hd (v:=u) (x:=.w y) ?_ hr (fun j hj=>h3 j (aqc.2 ⟨y,aqX hy,hj⟩)) hK;simp only[execOp,ho,e1];refine dM ?_;simp[Instr.extract,hu]
theorem Ap {x:W} {v:Value} (h:RW m S w v x):∃ us:List Value,v.cells=us.toArray∧aD (RC m S w) us (dX x)∧(dX x).flatMap C.ids=x.ids:=by
  unfold RW at h;split at h
  ·rename_i cs;obtain⟨us,rfl,h1⟩:=h;refine⟨us,rfl,?_,?_⟩
   ·simp only[dX];refine .mk (by simp[h1.length]) fun i g1 g2=>?_
    simp only[aqn];exact h1.get i g1 (by simpa using g2)
   ·simp only[dX,W.ids,C.ids]
    induction cs with
    | nil=>rfl
    | cons c r ih=>simp[C.ids]
  ·rename_i c hc;have e1:dX (.c c)=[c]:=by
     grind [dX]
   refine⟨[v],?_,?_,?_⟩
   ·have:v.oneCell'=true:=by
      cases c <;> simp only[RC] at h
      ·exact h.oneCell
      ·obtain⟨_,rfl⟩:=h; rfl
      ·unfold cO at h; split at h
       ·obtain⟨⟨_,rfl⟩,_⟩:=h; rfl
       ·obtain⟨_,_,_,_,_,h1,_⟩:=h; rw[h1]; rfl
      ·obtain⟨_,_,h1⟩:=h; rw[h1]; rfl
      ·obtain⟨_,_,h1⟩:=h; rw[h1]; rfl
      ·obtain⟨_,h1,_⟩:=h; rw[h1]; rfl
      ·obtain⟨_,_,h1,_⟩:=h; rw[h1]; rfl
      ·obtain⟨_,_,h1,_⟩:=h; rw[h1]; rfl
      ·obtain⟨_,_,h1⟩:=h; rw[h1]; rfl
    cases v <;> first | rfl | (simp[Value.oneCell'] at this; done)
   ·rw[e1]; exact .cons h .nil
   ·rw[e1]; simp[W.ids]
  ·rename_i cs;obtain⟨us,rfl,h1⟩:=h;exact⟨us,rfl,h1,rfl⟩
theorem RC.one {v:Value} {c:C} (h:RC m S w v c):v.oneCell'=true:=by
  cases c <;> simp only[RC] at h
  ·exact h.oneCell
  ·obtain⟨_,rfl⟩:=h; rfl
  ·unfold cO at h; split at h
   ·obtain⟨⟨_,rfl⟩,_⟩:=h; rfl
   ·obtain⟨_,_,_,_,_,h1,_⟩:=h; rw[h1]; rfl
  ·obtain⟨_,_,h1⟩:=h; rw[h1]; rfl
  ·obtain⟨_,_,h1⟩:=h; rw[h1]; rfl
  ·obtain⟨_,h1,_⟩:=h; rw[h1]; rfl
  ·obtain⟨_,_,h1,_⟩:=h; rw[h1]; rfl
  ·obtain⟨_,_,h1,_⟩:=h; rw[h1]; rfl
  ·obtain⟨_,_,h1⟩:=h; rw[h1]; rfl
theorem Bm:∀ {cs:List C} {ds:List D},jX cs=some ds→cs=ds.map C.d
  | [],ds,h=>by simp[jX] at h; subst h; rfl
  | .d x::r,ds,h=>by
    simp only[jX,apV] at h;obtain⟨l,h1,rfl⟩:=h;rw[Bm h1]; rfl
  | .nil::_,_,h | .own ..::_,_,h | .ptr ..::_,_,h | .pa ..::_,_,h | .rp ..::_,_,h | .ra ..::_,_,h | .fr ..::_,_,h=>by simp[jX] at h
theorem uY:∀ {cs:List C} {ds:List D} {us:List Value},gY cs=some ds→aD (RC m S w) us cs→aD (Reads S w) us ds
  | [],ds,us,h,k=>by simp[gY] at h; subst h; cases k; exact .nil
  | .d x::r,ds,us,h,k=>by
    simp only[gY,apV] at h;obtain⟨l,h1,rfl⟩:=h;cases k with
    | cons k1 k2=>exact .cons k1 (uY h1 k2)
  | .nil::r,ds,us,h,k=>by
    simp only[gY,apV] at h;obtain⟨l,h1,rfl⟩:=h;cases k with
    | cons k1 k2 =>
      obtain⟨ad,rfl⟩:=k1;exact .cons (Reads.zero ad) (uY h1 k2)
  | .own ..::_,_,_,h,_ | .ptr ..::_,_,_,h,_ | .pa ..::_,_,_,h,_ | .rp ..::_,_,_,h,_ | .ra ..::_,_,_,h,_ | .fr ..::_,_,_,h,_=>by simp[gY] at h
theorem Lm:∀ {cs:List C} {ds:List D},jX cs=some ds→gY cs=some ds
  | [],ds,h=>by simpa [jX,gY] using h
  | .d x::r,ds,h=>by
    simp only[jX,gY,apV] at *
    obtain⟨l,h1,rfl⟩:=h;exact⟨l,Lm h1,rfl⟩
  | .nil::_,_,h | .own ..::_,_,h | .ptr ..::_,_,h | .pa ..::_,_,h | .rp ..::_,_,h | .ra ..::_,_,h | .fr ..::_,_,h=>by simp[jX] at h
theorem xZ {cs:List C} {us:List Value} (h:aD (RC m S w) us cs):RW m S w (.agg us.toArray) (jC cs)∧∀ i∈(jC cs).ids,i∈cs.flatMap C.ids:=by
  unfold jC;split
  ·rename_i ds hd;exact⟨⟨us,rfl,uY (Lm hd) h⟩,fun i hi=>by cases hi⟩
  ·exact⟨⟨us,rfl,h⟩,fun i hi=>hi⟩
theorem Rv {cs:List C} {us:List Value} (h:aD (RC m S w) us cs) {off:Nat} {kd:Kd} {y:W} (e:mP cs off kd=some y) {t:TypeId} (ht:ga P t=some kd) :
    ∃ v,(part t us.toArray off).run P w=.ok v w∧RW m S w v y∧∀ i∈y.ids,i∈cs.flatMap C.ids:=by
  unfold ga at ht;have agg:∀ (i:TypeInfo),P.info? t=some i→(isAgg t).run P w=.ok true w→kd=.ag i.size→∃ v,(part t us.toArray off).run P w=.ok v w∧RW m S w v y∧∀ i∈y.ids,i∈cs.flatMap C.ids:=by
    intro i hi hg hk;subst hk;simp only[mP] at e;split at e
    ·rename_i hle;cases e;have h1:=xZ ((h.drop off).take i.size);refine⟨.agg ((us.drop off).take i.size).toArray,?_,h1.1,fun j hj=>?_⟩
     ·simp only[part,Sem.run_bind,hg,Result.andThen_ok,if_true,sizeOf,typeInfo,run_program,hi,Sem.run_pure,List.extract_toArray,List.extract_eq_take_drop]
      congr 3
      rw[show off+i.size-off=i.size by omega]
     grind
    ·cases e
  split at ht
  ·rename_i i fs hi hu;cases ht;exact agg i hi (by unfold isAgg; simp[run_underlying hu]) rfl
  ·rename_i i n el hi hu;cases ht;exact agg i hi (by unfold isAgg; simp[run_underlying hu]) rfl
  ·rename_i i d hn1 hn2 hi hu;split at ht
   ·cases ht;simp only[mP,apV] at e;obtain⟨c,hc,rfl⟩:=e;obtain⟨v,hv,hr⟩:=h.get? hc;refine⟨v,?_,?_,fun j hj=>aqc.2 ⟨c,aqX hc,hj⟩⟩
    ·have hg:(isAgg t).run P w=.ok false w:=by
       unfold isAgg;simp only[Sem.run_bind,run_underlying hu,Result.andThen_ok];simp_all
     simp[part,hg,hv]
    ·exact hr.rw
   ·cases ht
  ·cases ht
end
end Go.Proofs.YtnjhelpgohdajaaGreatDoor
