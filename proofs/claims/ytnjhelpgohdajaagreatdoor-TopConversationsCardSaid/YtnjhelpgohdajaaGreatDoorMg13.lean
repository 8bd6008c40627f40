/- Texts of one's own, merged: from: The plain logic (7): parts,cuts,indexes,loads. Own work. -/
import Derived.Laws.StructEq
import Derived.Test.YtnjhelpgohdajaaGreatDoorMg12
set_option linter.unusedVariables false
set_option linter.unusedSimpArgs false
namespace Go.Proofs.YtnjhelpgohdajaaGreatDoor
open Go.RowKit
section
variable {P:Program} {G:au} {N:Nat} {Sin:aT} {w0:Gh} {σ:St} {a:Act} {w:World} {S:aT} {m:Mp} {o:Oper} {K:St→Prop} {Q:Exit→Act→World→Prop}
theorem Bn {x:V} {v:Value} {cs:List C} (h:RV m S w v x) (e:iZ x=some cs):∃ us:List Value,v=.agg us.toArray∧aD (RC m S w) us cs∧cs.flatMap C.ids=x.ids:=by
  unfold iZ at e;split at e
  ·rename_i y;unfold zr at e;split at e
   ·rename_i ds;cases e;obtain⟨us,rfl,h1⟩:=h;refine⟨us,rfl,.mk (by simp[h1.length]) fun i g1 g2=>?_,?_⟩
    ·simp only[aqn];exact h1.get i g1 (by simpa using g2)
    ·simp only[V.ids,W.ids,C.ids]
     induction ds with
     | nil=>rfl
     | cons c r ih=>simp[C.ids]
   ·cases e;obtain⟨us,rfl,h1⟩:=h;exact⟨us,rfl,h1,rfl⟩
   ·cases e
  ·cases e
theorem acE {k:Nat} {x y:C} {v u:Value} {b:Bool} (hx:RC m S w v x) (hy:RC m S w u y) (e:re k x y=some b) {t:TypeId} (hk:La P t=some k) (d:Nat) :
    (Op.equalIn (d+1) t v u).run P w=.ok b w∧(isAgg t).run P w=.ok false w:=by
  unfold La at hk;unfold re at e;split at e
  ·split at e
   ·rename_i k1 a k2 c hkk;subst hkk;cases e;cases hx; cases hy
    split at hk <;> cases hk;rename_i ht;exact⟨run_equalIn_int w d t _ _ _ _ ht,by simp[isAgg,run_underlying ht]⟩
   ·cases e
  ·cases e;cases hx; cases hy
   split at hk <;> cases hk;rename_i ht;exact⟨run_equalIn_bool' w d t _ _ ht,by simp[isAgg,run_underlying ht]⟩
  ·cases e;cases hx; cases hy
   split at hk <;> cases hk;rename_i ht;exact⟨run_equalIn_string w d t _ _ ht,by simp[isAgg,run_underlying ht]⟩
  ·cases e
theorem Ni (d:Nat):∀ (fs:List Field) (i:Nat) (ks:List Nat) (xs ys:List C) (us vs:List Value) (b:Bool),DN P fs i=some ks→om ks xs ys=some b →
    aD (RC m S w) (us.drop i) xs→aD (RC m S w) (vs.drop i) ys→(Op.eqFields (d+1) us.toArray vs.toArray fs).run P w=.ok b w
  | [],i,ks,xs,ys,us,vs,b,hf,he,h1,h2=>by
    cases hf;cases xs with
    | nil =>
      cases ys with
      | nil=>cases he; rfl
      | cons _ _=>cases he
    | cons _ _=>cases he
  | f::fs,i,ks,xs,ys,us,vs,b,hf,he,h1,h2=>by
    unfold DN at hf;split at hf
    ·rename_i hn;split at hf
     ·rename_i k ks' hk hks;cases hf;cases xs with
      | nil=>cases ys <;> cases he
      | cons a r =>
        cases ys with
        | nil=>cases he
        | cons c s =>
        rw[Rq] at he;obtain⟨p,q,hp,hq,rfl⟩:∃ p q,re k a c=some p∧om ks' r s=some q∧(p&&q)=b:=by
          cases hp:re k a c with
          | none=>rw[hp] at he; cases he
          | some p =>
            cases hq:om ks' r s with
            | none=>rw[hp,hq] at he; cases he
            | some q=>rw[hp,hq] at he; cases he; exact⟨p,q,rfl,rfl,rfl⟩
        focus
          obtain⟨ua,ur,e1,ha,hr⟩:∃ ua ur,us.drop i=ua::ur∧RC m S w ua a∧aD (RC m S w) ur r:=by
            cases hu:us.drop i with
            | nil=>rw[hu] at h1; cases h1
            | cons x y=>rw[hu] at h1; cases h1 with | cons q1 q2=>exact⟨_,_,rfl,q1,q2⟩
          obtain⟨vc,vs',e2,hc,hs⟩:∃ vc vs',vs.drop i=vc::vs'∧RC m S w vc c∧aD (RC m S w) vs' s:=by
            cases hu:vs.drop i with
            | nil=>rw[hu] at h2; cases h2
            | cons x y=>rw[hu] at h2; cases h2 with | cons q1 q2=>exact⟨_,_,rfl,q1,q2⟩
          have g1:us[i]?=some ua:=by rw[← List.head?_drop,e1]; rfl
          have g2:vs[i]?=some vc:=by rw[← List.head?_drop,e2]; rfl
          have d1:us.drop (i+1)=ur:=by rw[← List.tail_drop,e1]; rfl
          have d2:vs.drop (i+1)=vs':=by rw[← List.tail_drop,e2]; rfl
          obtain⟨r1,r2⟩:=acE ha hc hp hk d;have ih:=Ni d fs (i+1) ks' r s us vs q hks hq (by rw[d1]; exact hr) (by rw[d2]; exact hs);have p1:(part f.type us.toArray f.offset).run P w=.ok ua w:=by
            rw[hn.2]; simp[part,r2,g1]
          have p2:(part f.type vs.toArray f.offset).run P w=.ok vc w:=by
            rw[hn.2]; simp[part,r2,g2]
          unfold Op.eqFields;rw[if_pos hn.1];simp only[Sem.run_bind,p1,p2,r1,Result.andThen_ok];cases p
          ·simp
          ·simpa using ih
     ·cases hf
    ·cases hf
theorem acF (neg:Bool) (op:BinOp) (hop:op=if neg then .neq else .eql) (t t':TypeId) {ks:List Nat} (ht:KF P t=some ks) (x y:Operand) (x' y':SX) (ho:o.op=.binOp op t x y t') (hx:be x=some x') (hy:be y=some y') (h:Inv G N Sin w0 σ a w S m) (hd:∀ t,o.dst=some t→t<N∧w0.fx t=none)
    {d:D} (hb:zR neg ks (ev G σ.f x') (ev G σ.f y')=some d) (hK:K (σ.put o.dst (vd d,σ.h,σ.u))):o.wp P a w (Nx G N Sin w0 K) Q:=by
  have h1:=(h.operand hx).1;have h2:=(h.operand hy).1;obtain⟨cs,ds,b,e1,e2,hbb,rfl⟩:=ahe hb
  ·obtain⟨us,g1,q1,_⟩:=Bn h1 e1;obtain⟨vs,g2,q2,_⟩:=Bn h2 e2;unfold KF at ht;split at ht
   ·rename_i fs hu;split at ht
    ·rename_i hg;have hfo:P.fieldsOf t=fs:=by unfold Program.fieldsOf; rw[hu]
     have key:=run_equalIn_agg (P:=P) w 9999 t us.toArray vs.toArray (by rw[hfo]; exact hu) hg.1;rw[hfo,Ni 9998 fs.toList 0 ks cs ds us vs b ht hbb (by simpa using q1) (by simpa using q2)] at key;refine i7 h hd ?_ (.bool _) hK;simp only[execOp,ho,g1,g2];have hguard:∀ op,(eqGuard op t x y (.agg us.toArray) (.agg vs.toArray)).run P w=.ok () w:=fun op=>run_eqGuard_agg (P:=P) w op t x y us.toArray vs.toArray hg.2
     subst hop;cases neg
     ·have k1:=run_eql_struct (P:=P) w t us.toArray vs.toArray;rw[key] at k1;simp[hguard .eql,k1]
     ·have k1:=run_neq_struct (P:=P) w t us.toArray vs.toArray;rw[key] at k1;simp[hguard .neq,k1]
    ·cases ht
   ·cases ht
theorem yF (h:Inv G N Sin w0 σ a w S m) {i:Operand} {i':SX} (hi:be i=some i') {n j:Nat} (e:lC (ev G σ.f) i' n=some j):∃ k,a.eval i=.int k (j:Int)∧j<n:=by
  unfold lC at e;split at e
  ·rename_i k q hq;split at e
   ·rename_i hb;cases e;have:=oa (h.operand hi).1 hq;exact⟨k,by rw[this]; congr 1; omega,by omega⟩
   ·cases e
  ·cases e
def Bd (v:Option Value) (d l:Nat):Prop:=(v=none∧l=d)∨∃ k,v=some (.int k (l:Int))
theorem tg (h:Inv G N Sin w0 σ a w S m) {x:Option Operand} {x':Option SX} (hx:jS x=some x') {d l:Nat} (e:bound (ev G σ.f) x' d=some l):Bd (x.map a.eval) d l∧(x'.isSome=x.isSome):=by
  cases x with
  | none =>
    cases hx;simp only[bound,ap2] at e;exact⟨.inl ⟨rfl,e.symm⟩,rfl⟩
  | some y =>
    simp only[jS,apV] at hx;obtain⟨z,hz,rfl⟩:=hx;simp only[bound] at e;split at e
    ·rename_i k q hq;split at e
     ·rename_i h0;cases e;have:=oa (h.operand hz).1 hq;exact⟨.inr ⟨k,by rw[aq4,this]; congr 2; omega⟩,rfl⟩
     ·cases e
    ·cases e
theorem E0 {isSlice:Bool} {len cap l k q:Nat} {lo hi mx:Option Value} (h1:Bd lo 0 l) (h2:Bd hi len k) (h3:Bd mx cap q) (h4:mx.isSome=true→hi.isSome=true) (e1:l≤k) (e2:k≤q) (e3:q≤cap) :
    (Instr.sliceBounds isSlice len cap lo hi mx).run P w=.ok (l,k,q) w:=by
  have b:∀ (x y:Nat) (t:IntKind) (c:BoundsCode),x≤y→(Instr.sliceBound (.int t (x:Int)) y c).run P w=.ok x w:=fun x y t c hxy=>by
    have:=run_sliceBound (P:=P) w t (x:Int) y c (by omega) (by omega)
    simpa using this
  rcases h1 with ⟨rfl,rfl⟩ | ⟨t1,rfl⟩ <;> rcases h2 with ⟨rfl,rfl⟩ | ⟨t2,rfl⟩ <;> rcases h3 with ⟨rfl,rfl⟩ | ⟨t3,rfl⟩ <;>
    first
      | (simp at h4; done)
      | (simp[Instr.sliceBounds,b _ _ _ _ e1,b _ _ _ _ e2,b _ _ _ _ e3]; done)
      | (simp[Instr.sliceBounds,b _ _ _ _ e1,b _ _ _ _ e2]; done)
      | (simp[Instr.sliceBounds,b _ _ _ _ e1]; done)
      | (simp[Instr.sliceBounds,b _ _ _ _ e2,b _ _ _ _ e3]; done)
      | (simp[Instr.sliceBounds,b _ _ _ _ e2]; done)
      | (simp[Instr.sliceBounds]; done)
theorem W9 (t:TypeId) (x:Operand) (x':SX) (f:Nat) (ho:o.op=.field t x f) (hx:be x=some x') {fs:Array Field} (ht:P.underlying t=some (.struct fs)) {fd:Field} (hf:fs[f]?=some fd) {kd:Kd} (hk:ga P fd.type=some kd)
    (h:Inv G N Sin w0 σ a w S m) (hd:∀ t,o.dst=some t→t<N∧w0.fx t=none) {cs:List C} (hc:iZ (ev G σ.f x')=some cs) {y:W} (hy:mP cs fd.offset kd=some y) (hK:K (σ.put o.dst (.w y,σ.h,σ.u))):o.wp P a w (Nx G N Sin w0 K) Q:=by
  have h1:=h.operand hx;obtain⟨us,e1,h2,h3⟩:=Bn h1.1 hc;obtain⟨v,hr,hv,hi⟩:=Rv (P:=P) h2 hy hk;refine gg h hd (x:=.w y) ?_ hv (fun j hj=>h1.2 j (h3 ▸ hi j hj)) hK;simp only[execOp,ho,e1];refine dM ?_;simp[Instr.field,run_underlying ht,hf,asAgg,hr]
theorem mr {e:TypeId} {s b:Nat} {z:D} (h:mI P e=some (s,b,z)):∃ i zv,P.info? e=some i∧i.size=s∧i.bytes=b∧i.zero=some zv∧0<s∧z.cells.length=s∧(∀ S w,aD (Reads S w) zv.cells.toList z.cells):=by
  unfold mI at h;split at h
  ·rename_i i hk hi;split at h
   ·rename_i zv hz;simp only[apV,Prod.mk.injEq] at h;obtain⟨d,hd,rfl,rfl,h3⟩:=h;subst h3;have hone:d.cells=[d]:=(tc (S:=fun _ _=>False) (w:=default) hd).cellsOf;refine⟨i,zv,hi,?_,rfl,hz,by omega,by rw[hone]; rfl,fun S w=>?_⟩
    ·unfold ga at hk;rw[hi] at hk;split at hk
     ·cases hk
     ·cases hk
     ·rename_i e1 _; cases e1; split at hk
      ·assumption
      ·cases hk
     ·cases hk
    ·rw[hone];have:zv.cells=#[zv]:=by
       unfold pi at hd;split at hd <;> first | rfl | cases hd
     rw[this];exact .cons (tc hd) .nil
   ·cases h
  ·rename_i n i hk hi;split at h
   ·rename_i zv hz;split at h
    ·rename_i ds hds;split at h
     ·rename_i hn;simp only[ap2,Prod.mk.injEq] at h;obtain⟨rfl,rfl,rfl⟩:=h;refine⟨i,zv,hi,?_,rfl,hz,hn.1,hn.2,fun S w=>mn (fun _ _=>tc) hds⟩;unfold ga at hk;rw[hi] at hk;split at hk
      ·rename_i e1 _; cases e1; cases hk; rfl
      ·rename_i e1 _; cases e1; cases hk; rfl
      ·split at hk <;> cases hk
      ·cases hk
     ·cases h
    ·cases h
   ·cases h
  ·cases h
theorem nU {t e:TypeId} {s b:Nat} {z:D} (h:gZ P t=some (e,s,b,z)):P.underlying t=some (.slice e)∧mI P e=some (s,b,z):=by
  unfold gZ at h;split at h
  ·rename_i e' he;simp only[apV,Prod.mk.injEq] at h;obtain⟨⟨s',b',z'⟩,h1,rfl,rfl,rfl,rfl⟩:=h;exact⟨he,h1⟩
  ·cases h
theorem xI {e:TypeId} {s b:Nat} {z:D} (h:mI P e=some (s,b,z)):(sizeOf e).run P w=.ok s w:=by
  obtain⟨i,_,h1,h2,_⟩:=mr h;simp[sizeOf,typeInfo,h1,h2]
theorem Wj (t e:TypeId) (n:Nat) (ht:P.underlying t=some (.array n e)) {s b:Nat} {z:D} (he:mI P e=some (s,b,z)) {kd:Kd} (hk:ga P e=some kd) (x i:Operand) (x' i':SX) (ho:o.op=.index t x i) (hx:be x=some x') (hi:be i=some i')
    (h:Inv G N Sin w0 σ a w S m) (hd:∀ t,o.dst=some t→t<N∧w0.fx t=none) {cs:List C} (hc:iZ (ev G σ.f x')=some cs) {j:Nat} (hj:lC (ev G σ.f) i' n=some j) {y:W} (hy:mP cs (j*s) kd=some y) (hK:K (σ.put o.dst (.w y,σ.h,σ.u))):o.wp P a w (Nx G N Sin w0 K) Q:=by
  have h1:=h.operand hx;obtain⟨us,e1,h2,h3⟩:=Bn h1.1 hc;obtain⟨k,e2,hlt⟩:=yF h hi hj;obtain⟨v,hr,hv,hids⟩:=Rv (P:=P) h2 hy hk;refine gg h hd (x:=.w y) ?_ hv (fun j hj=>h1.2 j (h3 ▸ hids j hj)) hK;simp only[execOp,ho,e1,e2];refine dM ?_;have h0:(0:Int)≤(j:Int)∧(j:Int)<(n:Int):=by omega
  simp[Instr.index,run_underlying ht,asIntOf,hlt,xI he,hr]
theorem Wl (t:TypeId) (ht:P.underlying t=some .string) (x i:Operand) (x' i':SX) (ho:o.op=.index t x i) (hx:be x=some x') (hi:be i=some i')
    (h:Inv G N Sin w0 σ a w S m) (hd:∀ t,o.dst=some t→t<N∧w0.fx t=none) {s:ByteArray} (hs:ev G σ.f x'=.w (.c (.d (.str s)))) {j:Nat} (hj:lC (ev G σ.f) i' s.size=some j) {b:UInt8} (hb:s.data.toList[j]?=some b) (hK:K (σ.put o.dst (vd (bD b),σ.h,σ.u))):o.wp P a w (Nx G N Sin w0 K) Q:=by
  have h1:=(h.operand hx).1;rw[hs] at h1;obtain⟨k,e2,hlt⟩:=yF h hi hj;refine i7 h hd (v:=.int .u8 (b.toNat:Int)) ?_ (.int _ _) hK;simp only[execOp,ho,tB h1,e2];refine dM ?_;rw[run_index_string w t s k j ht,dif_pos (by omega)];have hb':s[(j:Int).toNat]'(by omega)=b:=by
    obtain⟨g1,g2⟩:=aqd.1 hb;rw[← g2];simp only[ar0];rfl
  rw[hb']
theorem VR (t:TypeId) (ht:P.underlying t=some .string) (x:Operand) (lo hi:Option Operand) (x':SX) (lo' hi':Option SX) (ho:o.op=.slice t x lo hi none) (hx:be x=some x') (hlo:jS lo=some lo') (hhi:jS hi=some hi')
    (h:Inv G N Sin w0 σ a w S m) (hd:∀ t,o.dst=some t→t<N∧w0.fx t=none) {s:ByteArray} (hs:ev G σ.f x'=.w (.c (.d (.str s)))) {l k:Nat} (hl:bound (ev G σ.f) lo' 0=some l) (hk:bound (ev G σ.f) hi' s.size=some k) (h1:l≤k) (h2:k≤s.size)
    (hK:K (σ.put o.dst (vd (.str (s.extract l k)),σ.h,σ.u))):o.wp P a w (Nx G N Sin w0 K) Q:=by
  have hv:=(h.operand hx).1;rw[hs] at hv;refine i7 h hd (v:=.string (s.extract l k)) ?_ (.str _) hK;simp only[execOp,ho,tB hv];refine dM ?_;rw[run_sliceAt_string w t _ _ _ _ ht];have:=E0 (P:=P) (w:=w) (isSlice:=false) (tg h hlo hl).1 (tg h hhi hk).1 (show Bd (none:Option Value) s.size s.size from .inl ⟨rfl,rfl⟩) (fun h=>by cases h) h1 h2 (ap3 _);simp[Instr.slice,run_underlying ht,this]
theorem Wm (t:TypeId) (n:Nat) (e:TypeId) (ht:P.underlying t=some (.array n e)) (x:Operand) (c:Call) (ho:o.op=.call c) (hc:c.callee=.builtin .len) (hts:c.argTypes.toList=[t]) (hargs:c.args.toList=[x])
    (h:Inv G N Sin w0 σ a w S m) (hd:∀ t,o.dst=some t→t<N∧w0.fx t=none) (hK:K (σ.put o.dst (vd (.int .i64 n),σ.h,σ.u))):o.wp P a w (Nx G N Sin w0 K) Q:=by
  have e1:c.argTypes=#[t]:=by apply Array.ext'; simpa using hts
  have e2:c.args=#[x]:=by apply Array.ext'; simpa using hargs
  refine i7 h hd (v:=.int .i64 n) ?_ (.int _ _) hK;simp only[execOp,ho,resolve,hc,invoke,builtin,e1,e2];simp[Builtin.len_,run_underlying ht,goInt]
theorem Wn (t:TypeId) (ht:P.underlying t=some .string) (x:Operand) (x':SX) (c:Call) (ho:o.op=.call c) (hc:c.callee=.builtin .len) (hts:c.argTypes.toList=[t]) (hargs:c.args.toList=[x]) (hx:be x=some x')
    (h:Inv G N Sin w0 σ a w S m) (hd:∀ t,o.dst=some t→t<N∧w0.fx t=none) {s:ByteArray} (hs:ev G σ.f x'=.w (.c (.d (.str s)))) (hK:K (σ.put o.dst (vd (.int .i64 s.size),σ.h,σ.u))):o.wp P a w (Nx G N Sin w0 K) Q:=by
  have e1:c.argTypes=#[t]:=by apply Array.ext'; simpa using hts
  have e2:c.args=#[x]:=by apply Array.ext'; simpa using hargs
  have hv:=(h.operand hx).1;rw[hs] at hv;refine i7 h hd (v:=.int .i64 s.size) ?_ (.int _ _) hK;simp only[execOp,ho,resolve,hc,invoke,builtin,e1,e2];simp[Builtin.len_,run_underlying ht,goInt,tB hv]
theorem Pb {x:V} {v:Value} {n:Nat} (h:RV m S w v x) (hn:mz x=some n):∃ ad cap,v=.slice ad n cap:=by
  unfold mz at hn;split at hn
  ·cases hn;rcases Reads.row h with ⟨h1,rfl⟩ | ⟨ad,cap,sz,h1,_⟩
   ·exact⟨none,0,h1⟩
   ·exact⟨some ad,cap,h1⟩
  ·cases hn;obtain⟨ad,h⟩:=h;exact⟨ad,0,h⟩
  ·rename_i id sz off n';cases hn;have hv':cO m w v id sz off n:=h;unfold cO at hv';split at hv'
   ·obtain⟨⟨ad,h1⟩,_,rfl⟩:=hv'; exact⟨ad,0,h1⟩
   ·obtain⟨_,ad,cap,_,_,h1,_⟩:=hv'; exact⟨some ad,cap,h1⟩
  ·cases hn
theorem acG (t e:TypeId) (ht:P.underlying t=some (.slice e)) (x:Operand) (x':SX) (c:Call) (ho:o.op=.call c) (hc:c.callee=.builtin .len) (hts:c.argTypes.toList=[t]) (hargs:c.args.toList=[x]) (hx:be x=some x')
    (h:Inv G N Sin w0 σ a w S m) (hd:∀ t,o.dst=some t→t<N∧w0.fx t=none) {n:Nat} (hn:mz (ev G σ.f x')=some n) (hK:K (σ.put o.dst (vd (.int .i64 n),σ.h,σ.u))):o.wp P a w (Nx G N Sin w0 K) Q:=by
  have e1:c.argTypes=#[t]:=by apply Array.ext'; simpa using hts
  have e2:c.args=#[x]:=by apply Array.ext'; simpa using hargs
  obtain⟨ad,cap,hval⟩:=Pb (h.operand hx).1 hn;refine i7 h hd (v:=.int .i64 n) ?_ (.int _ _) hK;simp only[execOp,ho,resolve,hc,invoke,builtin,e1,e2];simp[Builtin.len_,run_underlying ht,goInt,hval]
end
section
variable {P:Program} {G:au} {N:Nat} {Sin:aT} {w0:Gh} {σ:St} {a:Act} {w:World} {S:aT} {m:Mp} {o:Oper} {K:St→Prop} {Q:Exit→Act→World→Prop}
theorem il (b o n:Nat):(⟨b,o,none⟩:Addr).add n=⟨b,o+n,none⟩:=by
  unfold Addr.add; split <;> simp_all
theorem fI.from {ad:Addr} {cs:List D} (h:fI S w ad cs) (n:Nat):fI S w (ad.add n) (cs.drop n):=by
  intro j hj;rw[ap5] at hj;obtain⟨v,h1,h2,h3⟩:=h (n+j) (by omega);have hs:=cell_spot h2;obtain⟨b,off,sp⟩:=ad;simp only at hs;subst hs;rw[il];simp only[arO];exact⟨v,h1,h2,by rw[List.getElem_drop]; exact h3⟩
theorem fI.take {ad:Addr} {cs:List D} (h:fI S w ad cs) (n:Nat):fI S w ad (cs.take n):=by
  intro j hj;rw[ap0] at hj;obtain⟨v,h1,h2,h3⟩:=h j (by omega);exact⟨v,h1,h2,by rw[ar1]; exact h3⟩
theorem fJ.from {ad:Addr} {sz:Nat} {es:List D} (h:fJ S w ad sz es) (hsz:0<sz) (n:Nat):fJ S w (ad.add (n*sz)) sz (es.drop n):=by
  intro i hi;rw[ap5] at hi;obtain⟨h1,h2⟩:=h (n+i) (by omega);obtain⟨v,_,hc,_⟩:=h2 0 (by omega);have hs:=cell_spot hc;obtain⟨b,off,sp⟩:=ad;simp only at hs;subst hs;rw[il];simp only[List.getElem_drop];refine⟨h1,?_⟩;have e:off+n*sz+i*sz=off+(n+i)*sz:=by rw[aqC,arO]
  simp only[e];exact h2
theorem fJ.take {ad:Addr} {sz:Nat} {es:List D} (h:fJ S w ad sz es) (n:Nat):fJ S w ad sz (es.take n):=by
  intro i hi;rw[ap0] at hi;rw[ar1];exact h i (by omega)
theorem qg {sz:Nat} {es:List D} (h:eZ sz es=true):∀ e∈es,e.cells.length=sz:=by
  unfold eZ at h;rw[ap9] at h;intro e he
  simpa using h e he
theorem fJ.size {ad:Addr} {sz sz':Nat} {es:List D} (h:fJ S w ad sz es) (k:∀ e∈es,e.cells.length=sz'):fJ S w ad sz' es:=by
  intro i hi;obtain⟨h1,h2⟩:=h i hi;have:=k es[i] (aqr hi);obtain rfl:sz=sz':=by omega
  exact⟨h1,h2⟩
theorem VO (t:TypeId) (x:Operand) (x':SX) (f:Nat) (ho:o.op=.fieldAddr t x f) (hx:be x=some x') {fs:Array Field} (ht:P.underlying t=some (.struct fs)) {fd:Field} (hf:fs[f]?=some fd) {i:TypeInfo} (hi:P.info? fd.type=some i) (hsz:i.size≠0)
    (h:Inv G N Sin w0 σ a w S m) (hd:∀ t,o.dst=some t→t<N∧w0.fx t=none) {c:C} (hc:xi fd.offset (ev G σ.f x')=some c) (hK:K (σ.put o.dst (.w (.c c),σ.h,σ.u))):o.wp P a w (Nx G N Sin w0 K) Q:=by
  have h1:=h.operand hx;have run:∀ ad:Addr,a.eval x=.pointer (some ad)→(execOp a.eval o).run P w=.ok (.value (.pointer (some (ad.add fd.offset)))) w:=fun ad e=>by
    simp only[execOp,ho,e];refine dM ?_;simp[Instr.fieldAt,run_underlying ht,hf,Instr.sureAddr,fieldPlace,sizeOf,typeInfo,hi,hsz]
  unfold xi at hc;split at hc
  ·rename_i id sz q off e;cases hc;rw[e] at h1;obtain⟨⟨b,hm,hv⟩,hids⟩:=h1;refine gg h hd (run _ hv) (x:=.w (.c (.ptr id sz q (off+fd.offset)))) ⟨b,hm,?_⟩ hids hK;rw[il,arO]
  ·rename_i cs e;cases hc;rw[e] at h1;obtain⟨⟨ad,hv,hcs⟩,_⟩:=h1;exact gg h hd (run _ hv) (x:=.w (.c (.rp (cs.drop fd.offset)))) ⟨_,rfl,hcs.from _⟩ (fun i hi=>by cases hi) hK
  ·cases hc
theorem Lx {t e:TypeId} {s b:Nat} {z:D} (ht:gZ P t=some (e,s,b,z)) (ad:Addr) (n cap:Nat) (k:IntKind) (j:Nat) (hj:j<n) :
    (Instr.indexAt t (.slice (some ad) n cap) (.int k (j:Int))).run P w=.ok (.pointer (some (ad.add (j*s)))) w:=by
  obtain⟨hu,he⟩:=nU ht;simp[Instr.indexAt,run_underlying hu,asIntOf,hj,xI he]
theorem Xa (t e:TypeId) {s b:Nat} {z:D} (ht:gZ P t=some (e,s,b,z)) (x i:Operand) (x' i':SX) (ho:o.op=.indexAddr t x i) (hx:be x=some x') (hi:be i=some i')
    (h:Inv G N Sin w0 σ a w S m) (hd:∀ t,o.dst=some t→t<N∧w0.fx t=none) {r:R} (hr:ef (ev G σ.f) σ.h σ.u (o.dst.getD 0) (.idxSl s x' i')=some r) (hK:K (σ.put o.dst r)):o.wp P a w (Nx G N Sin w0 K) Q:=by
  have h1:=h.operand hx;have hpos:0<s:=by obtain⟨_,_,_,_,_,_,h5,_⟩:=mr (nU ht).2; exact h5
  simp only[ef] at hr;split at hr
  ·rename_i es e1;split at hr
   ·rename_i j hj;obtain⟨k,e2,hlt⟩:=yF h hi hj;split at hr
    ·rename_i el hel;split at hr
     ·rename_i hsz;cases hr;rw[e1] at h1;rcases Reads.row h1.1 with ⟨_,rfl⟩ | ⟨ad,cap,sz',hv,hcap,hmax,hrow⟩
      ·simp at hlt
      ·obtain⟨hlt',rfl⟩:=aqd.1 hel;obtain⟨g1,g2⟩:=hrow j hlt;obtain rfl:sz'=s:=by omega
       obtain⟨v,_,hc,_⟩:=g2 0 (by omega);have hs:=cell_spot hc;obtain⟨bb,off,sp⟩:=ad;simp only at hs;subst hs;refine gg h hd (v:=.pointer (some ⟨bb,off+j*sz',none⟩)) ?_ (x:=.w (.c (.rp es[j].cells))) ⟨_,rfl,g2⟩ (fun i hi=>by cases hi) hK;simp only[execOp,ho,hv,e2];refine dM ?_;rw[Lx ht _ _ _ _ _ hlt,il]
     ·cases hr
    ·cases hr
   ·cases hr
  ·rename_i id sz' off n e1;split at hr
   ·rename_i j hj;obtain⟨k,e2,hlt⟩:=yF h hi hj;split at hr
    ·rename_i hs;subst hs;cases hr;rw[e1] at h1;obtain⟨hv,hids⟩:=h1;have hv':cO m w (a.eval x) id sz' off n:=hv;unfold cO at hv';split at hv'
     ·omega
     ·rename_i bb sz2 hm;obtain⟨rfl,ad,cap,ty,M,g1,g2,g3,g4,g5,g6⟩:=hv';have hids':∀ i∈(V.w (.c (.ptr id sz2 (off+j) 0))).ids,σ.u i=true:=hids
      refine gg h hd (v:=.pointer (some ⟨bb,(off+j)*sz2+0,none⟩)) ?_ (x:=.w (.c (.ptr id sz2 (off+j) 0))) ⟨bb,hm,rfl⟩ hids' hK;simp only[execOp,ho,g1,e2];refine dM ?_;rw[Lx ht _ _ _ _ _ hlt,g4 (by omega),il,aqC];rfl
    ·cases hr
   ·cases hr
  ·cases hr
theorem VS {t e:TypeId} {n:Nat} (hu:P.underlying t=some (.array n e)) {s b:Nat} {z:D} (he:mI P e=some (s,b,z)) (ad:Addr) (k:IntKind) (j:Nat) (hj:j<n) :
    (Instr.indexAt t (.pointer (some ad)) (.int k (j:Int))).run P w=.ok (.pointer (some (ad.add (j*s)))) w:=by
  simp[Instr.indexAt,run_underlying hu,asIntOf,hj,xI he,Instr.sureAddr]
theorem Xb (t e:TypeId) (n:Nat) (hu:P.underlying t=some (.array n e)) {s b:Nat} {z:D} (he:mI P e=some (s,b,z)) (x i:Operand) (x' i':SX) (ho:o.op=.indexAddr t x i) (hx:be x=some x') (hi:be i=some i')
    (h:Inv G N Sin w0 σ a w S m) (hd:∀ t,o.dst=some t→t<N∧w0.fx t=none) {r:R} (hr:ef (ev G σ.f) σ.h σ.u (o.dst.getD 0) (.idxPa s n x' i')=some r) (hK:K (σ.put o.dst r)):o.wp P a w (Nx G N Sin w0 K) Q:=by
  have h1:=h.operand hx;have hpos:0<s:=by obtain⟨_,_,_,_,_,_,h5,_⟩:=mr he; exact h5
  simp only[ef] at hr;split at hr
  ·cases hr
  ·rename_i j hj;obtain⟨k,e2,hlt⟩:=yF h hi hj;have run:∀ ad:Addr,a.eval x=.pointer (some ad)→(execOp a.eval o).run P w=.ok (.value (.pointer (some (ad.add (j*s))))) w:=fun ad e=>by
     simp only[execOp,ho,e,e2];exact dM (VS hu he ad k j hlt)
   split at hr
   ·rename_i id sz' e1;split at hr
    ·rename_i hs;subst hs;cases hr;rw[e1] at h1;obtain⟨⟨bb,hm,hv⟩,hids⟩:=h1;have hids':∀ i∈(V.w (.c (.ptr id sz' j 0))).ids,σ.u i=true:=hids
     refine gg h hd (run _ hv) (x:=.w (.c (.ptr id sz' j 0))) ⟨bb,hm,?_⟩ hids' hK;rw[il];simp
    ·cases hr
   ·rename_i es e1;split at hr
    ·rename_i el hel;split at hr
     ·rename_i hsz;cases hr;rw[e1] at h1;obtain⟨⟨ad,sz',hv,hrow⟩,_⟩:=h1;obtain⟨hlt',rfl⟩:=aqd.1 hel;obtain⟨g1,g2⟩:=hrow j hlt';obtain rfl:sz'=s:=by omega
      obtain⟨v,_,hc,_⟩:=g2 0 (by omega);have hs:=cell_spot hc;obtain⟨bb,off,sp⟩:=ad;simp only at hs;subst hs;have:=run _ hv;rw[il] at this;exact gg h hd this (x:=.w (.c (.rp es[j].cells))) ⟨_,rfl,g2⟩ (fun i hi=>by cases hi) hK
     ·cases hr
    ·cases hr
   ·rename_i id sz' q off e1;cases hr;rw[e1] at h1;obtain⟨⟨bb,hm,hv⟩,hids⟩:=h1;have hids':∀ i∈(V.w (.c (.ptr id sz' q (off+j*s)))).ids,σ.u i=true:=hids
    refine gg h hd (run _ hv) (x:=.w (.c (.ptr id sz' q (off+j*s)))) ⟨bb,hm,?_⟩ hids' hK;rw[il,arO]
   ·rename_i cs e1;cases hr;rw[e1] at h1;obtain⟨⟨ad,hv,hcs⟩,_⟩:=h1;exact gg h hd (run _ hv) (x:=.w (.c (.rp ((cs.drop (j*s)).take s)))) ⟨_,rfl,(hcs.from _).take _⟩ (fun i hi=>by cases hi) hK
   ·cases hr
theorem Ly {t e:TypeId} {s b:Nat} {z:D} (ht:gZ P t=some (e,s,b,z)) (ad:Option Addr) (n cap:Nat) {lo hi mx:Option Value} {l k q:Nat} (h1:Bd lo 0 l) (h2:Bd hi n k) (h3:Bd mx cap q) (h4:mx.isSome=true→hi.isSome=true) (e1:l≤k) (e2:k≤q) (e3:q≤cap) :
    (Instr.sliceAt t (.slice ad n cap) lo hi mx).run P w=.ok (.slice (if q=l then ad else ad.map (·.add (l*s))) (k-l) (q-l)) w:=by
  obtain⟨hu,he⟩:=nU ht;have hb:=E0 (P:=P) (w:=w) (isSlice:=true) h1 h2 h3 h4 e1 e2 e3;have:=xI (w:=w) he;simp[Instr.sliceAt,Instr.slice,run_underlying hu,hb,this]
theorem Xc (t e:TypeId) {s b:Nat} {z:D} (ht:gZ P t=some (e,s,b,z)) (x:Operand) (lo hi mx:Option Operand) (x':SX) (lo' hi' mx':Option SX) (ho:o.op=.slice t x lo hi mx) (hx:be x=some x') (hlo:jS lo=some lo') (hhi:jS hi=some hi') (hmx:jS mx=some mx') (hmh:(mx'.isSome&&hi'.isNone)=false)
    (h:Inv G N Sin w0 σ a w S m) (hd:∀ t,o.dst=some t→t<N∧w0.fx t=none) {r:R} (hr:ef (ev G σ.f) σ.h σ.u (o.dst.getD 0) (.slice s x' lo' hi' mx')=some r) (hK:K (σ.put o.dst r)):o.wp P a w (Nx G N Sin w0 K) Q:=by
  have hv:=h.operand hx;have hpos:0<s:=by obtain⟨_,_,_,_,_,_,h5,_⟩:=mr (nU ht).2; exact h5
  simp only[ef] at hr;split at hr
  ·cases hr
  ·rename_i n hn;obtain⟨ad,cap,hval⟩:=Pb hv.1 hn;split at hr
   ·rename_i l k hl hk;split at hr
    ·rename_i q hq;split at hr
     ·rename_i hle;simp only[apV] at hr;obtain⟨c,hc,rfl⟩:=hr;have b1:=tg h hlo hl;have b2:=tg h hhi hk;have b3:=tg h hmx hq;have run:n≤cap→l≤k→∃ q',k≤q'∧q'≤cap∧(execOp a.eval o).run P w=.ok (.value (.slice (if q'=l then ad else ad.map (·.add (l*s))) (k-l) (q'-l))) w:=by
        intro hnc hlk;have hmi:(mx.map a.eval).isSome=true→(hi.map a.eval).isSome=true:=by
          rw[Option.isSome_map,Option.isSome_map,← b3.2,← b2.2];intro g;rw[g] at hmh;cases hi' with
          | none=>simp at hmh
          | some _=>rfl
        by_cases hm0:(mx.map a.eval)=none
        ·refine⟨cap,by omega,ap3 _,?_⟩;simp only[execOp,ho,hval];exact dM (Ly ht ad n cap b1.1 b2.1 (.inl ⟨hm0,rfl⟩) hmi hlk (by omega) (ap3 _))
        ·refine⟨q,hle.1,by omega,?_⟩;simp only[execOp,ho,hval];refine dM (Ly ht ad n cap b1.1 b2.1 ?_ hmi hlk hle.1 (by omega));rcases b3.1 with ⟨g,_⟩ | g
         ·exact absurd g hm0
         ·exact .inr g
      unfold xh at hc;split at hc
      ·rename_i es e1;split at hc
       ·rename_i hb;cases hc;rw[e1] at hv hn;simp only[mz,ap2] at hn;subst hn;rcases Reads.row hv.1 with ⟨g1,rfl⟩ | ⟨ad',cap',sz',g1,g2,g3,g4⟩
        ·rw[hval] at g1;cases g1;obtain⟨q',hq1,hq2,hrun⟩:=run (ap3 _) hb.1;have hk0:k=0:=by simpa using hb.2.1
         subst hk0;obtain rfl:l=0:=by omega
         obtain rfl:q'=0:=by omega
         refine i7 h hd (x:=.sl ((([]:List D).drop 0).take (0-0))) hrun ?_ hK;exact .nil
        ·rw[hval] at g1;cases g1;obtain⟨q',hq1,hq2,hrun⟩:=run g2 hb.1;have hrow:=g4.size (qg hb.2.2);refine i7 h hd (x:=.sl ((es.drop l).take (k-l))) hrun ?_ hK;have hlen:((es.drop l).take (k-l)).length=k-l:=by rw[ap0,ap5]; omega
         have hr2:∃ ad2,(if q'=l then some ad' else (some ad').map (·.add (l*s)))=some ad2∧fJ S w ad2 s ((es.drop l).take (k-l)):=by
           by_cases e:q'=l
           ·rw[if_pos e];have:k-l=0:=by omega
            rw[this];exact⟨ad',rfl,fun i hi=>by simp at hi⟩
           ·rw[if_neg e];exact⟨_,rfl,(hrow.from hpos l).take _⟩
         obtain⟨ad2,e2,hrow2⟩:=hr2;rw[e2];have:=Reads.of_row hrow2 (cap:=q'-l) (by rw[hlen]; omega) (by omega)
         rwa [hlen] at this
       ·cases hc
      ·rename_i e1;split at hc
       ·rename_i hb;cases hc;obtain⟨rfl,rfl⟩:=hb;rw[e1] at hv hn;simp only[mz,ap2] at hn;subst hn;obtain⟨ad0,hv'⟩:∃ ad,a.eval x=.slice ad 0 0:=hv.1
        rw[hval] at hv';cases hv';obtain⟨q',hq1,hq2,hrun⟩:=run (ap3 _) (ap3 _);obtain rfl:q'=0:=by omega
        exact gg h hd hrun (x:=.w (.c .nil)) ⟨_,rfl⟩ (fun i hi=>by cases hi) hK
       ·cases hc
      ·rename_i id sz' off n' e1;split at hc
       ·rename_i hb;cases hc;obtain⟨hb1,hb2,rfl⟩:=hb;rw[e1] at hv hn;simp only[mz,ap2] at hn;subst hn;obtain⟨hv1,hids⟩:=hv;have hids':∀ i∈(V.w (.c (.own id sz' (off+l) (k-l)))).ids,σ.u i=true:=hids
        have hv':cO m w (a.eval x) id sz' off n':=hv1;unfold cO at hv';split at hv'
        ·rename_i hm;obtain⟨⟨ad0,g1⟩,rfl,rfl⟩:=hv';rw[hval] at g1;cases g1;obtain⟨q',hq1,hq2,hrun⟩:=run (ap3 _) hb1;obtain rfl:k=0:=by omega
         obtain rfl:l=0:=by omega
         obtain rfl:q'=0:=by omega
         refine gg h hd hrun (x:=.w (.c (.own id sz' (0+0) (0-0)))) ?_ hids' hK
         show cO m w _ id sz' _ _
         unfold cO;rw[hm];exact⟨⟨_,rfl⟩,rfl,rfl⟩
        ·rename_i bb sz2 hm;obtain⟨rfl,ad',cap',ty,M,g1,g2,g3,g4,g5,g6⟩:=hv';rw[hval] at g1;cases g1;obtain⟨q',hq1,hq2,hrun⟩:=run g2 hb1;refine gg h hd hrun (x:=.w (.c (.own id sz2 (off+l) (k-l)))) ?_ hids' hK
         show cO m w _ id sz2 _ _
         unfold cO;rw[hm];have g6':(off+l+(q'-l))*sz2≤M:=aqG (aqt _ (by omega)) g6;by_cases e:q'=l
         ·rw[if_pos e];exact⟨rfl,ad',q'-l,ty,M,rfl,by omega,by omega,fun hp=>by
            obtain⟨rfl,rfl⟩:off=0∧l=0:=by omega
            exact g4 (.inr rfl),g5,g6'⟩
         ·rw[if_neg e];refine⟨rfl,_,q'-l,ty,M,rfl,by omega,by omega,fun hp=>?_,g5,g6'⟩;rw[g4 (by omega)]
          show (⟨bb,off*sz2,none⟩:Addr).add (l*sz2)=_
          rw[il,aqC]
       ·cases hc
      ·cases hc
     ·cases hr
    ·cases hr
   ·cases hr
theorem VT (t e:TypeId) (n:Nat) (hu:P.underlying t=some (.array n e)) {s b:Nat} {z:D} (he:mI P e=some (s,b,z)) (hn63:n≤maxLen) (x:Operand) (lo hi:Option Operand) (x':SX) (lo' hi':Option SX) (ho:o.op=.slice t x lo hi none) (hx:be x=some x') (hlo:jS lo=some lo') (hhi:jS hi=some hi')
    (h:Inv G N Sin w0 σ a w S m) (hd:∀ t,o.dst=some t→t<N∧w0.fx t=none) {r:R} (hr:ef (ev G σ.f) σ.h σ.u (o.dst.getD 0) (.sliceArr s n x' lo' hi')=some r) (hK:K (σ.put o.dst r)):o.wp P a w (Nx G N Sin w0 K) Q:=by
  have h1:=h.operand hx;have hpos:0<s:=by obtain⟨_,_,_,_,_,_,h5,_⟩:=mr he; exact h5
  simp only[ef] at hr;split at hr
  ·rename_i l k hl hk;have b1:=tg h hlo hl;have b2:=tg h hhi hk;split at hr
   ·rename_i hb;have run:∀ ad:Addr,a.eval x=.pointer (some ad)→(execOp a.eval o).run P w=.ok (.value (.slice (some (if n=l then ad else ad.add (l*s))) (k-l) (n-l))) w:=fun ad e=>by
      simp only[execOp,ho,e];refine dM ?_;have hbd:=E0 (P:=P) (w:=w) (isSlice:=false) b1.1 b2.1 (show Bd (none:Option Value) n n from .inl ⟨rfl,rfl⟩) (fun h=>by cases h) hb.1 hb.2 (ap3 _);have hsz:=xI (w:=w) he;simp[Instr.sliceAt,run_underlying hu,Instr.sureAddr,hbd,hsz]
    split at hr
    ·rename_i id sz' e1;split at hr
     ·rename_i szr es hob;split at hr
      ·rename_i hc;obtain⟨rfl,rfl⟩:=hc;cases hr;rw[e1] at h1;obtain⟨⟨bb,hm,hv⟩,hids⟩:=h1;have hids':∀ i∈(V.w (.c (.own id sz' l (k-l)))).ids,σ.u i=true:=hids
       have hobj:=(h.obj id _ hob).1;unfold bT at hobj;rw[hm] at hobj;obtain⟨_,_,_,cur,ty,fz,g4,_,g6,_⟩:=hobj;have g4:w.heap[bb]?=some (.cells cur ty fz):=g4;refine gg h hd (run _ hv) (x:=.w (.c (.own id sz' l (k-l)))) ?_ hids' hK
       show cO m w _ id sz' _ _
       unfold cO;rw[hm];refine⟨rfl,_,es.length-l,ty,cur.size,rfl,by omega,by omega,fun hp=>?_,by simp[World.shape?,g4],aqG (aqt _ (by omega)) g6⟩;by_cases e0:es.length=l
       ·rw[if_pos e0];obtain rfl:l=0:=by omega
        simp
       ·rw[if_neg e0,il];simp
      ·cases hr
     ·cases hr
    ·rename_i es e1;split at hr
     ·rename_i hc;cases hr;rw[e1] at h1;obtain⟨⟨ad,sz',hv,hrow⟩,_⟩:=h1;have hrow:=hrow.size (qg hc.2);refine i7 h hd (run _ hv) (x:=.sl ((es.drop l).take (k-l))) ?_ hK;have hlen:((es.drop l).take (k-l)).length=k-l:=by rw[ap0,ap5]; omega
      have hr2:∃ ad2,(if n=l then ad else ad.add (l*s))=ad2∧fJ S w ad2 s ((es.drop l).take (k-l)):=by
        by_cases e:n=l
        ·rw[if_pos e];have:k-l=0:=by omega
         rw[this];exact⟨ad,rfl,fun i hi=>by simp at hi⟩
        ·rw[if_neg e];exact⟨_,rfl,(hrow.from hpos l).take _⟩
      obtain⟨ad2,e2,hrow2⟩:=hr2;rw[e2];have:=Reads.of_row hrow2 (cap:=n-l) (by rw[hlen]; omega) (by omega)
      rwa [hlen] at this
     ·cases hr
    ·rename_i id sz' q off e1;split at hr
     ·rename_i cs hob;split at hr
      ·rename_i hc;obtain⟨rfl,rfl,hc3⟩:=hc;cases hr;rw[e1] at h1;obtain⟨⟨bb,hm,hv⟩,hids⟩:=h1;have hids':∀ i∈(V.w (.c (.own id 1 (q+off+l) (k-l)))).ids,σ.u i=true:=hids
       have hobj:=(h.obj id _ hob).1;unfold bT at hobj;rw[hm] at hobj;obtain⟨_,_,_,cur,ty,fz,g4,_,g6,_⟩:=hobj;have g4:w.heap[bb]?=some (.cells cur ty fz):=g4;refine gg h hd (run _ hv) (x:=.w (.c (.own id 1 (q+off+l) (k-l)))) ?_ hids' hK
       show cO m w _ id 1 _ _
       unfold cO;rw[hm];refine⟨rfl,_,n-l,ty,cur.size,rfl,by omega,by omega,fun hp=>?_,by simp[World.shape?,g4],by omega⟩;by_cases e0:n=l
       ·rw[if_pos e0];obtain⟨rfl,rfl,rfl⟩:q=0∧off=0∧l=0:=by omega
        simp
       ·rw[if_neg e0,il];simp
      ·cases hr
     ·cases hr
    ·cases hr
   ·cases hr
  ·cases hr
end
section
variable {P:Program} {G:au} {N:Nat} {Sin:aT} {w0:Gh} {σ:St} {a:Act} {w:World} {S:aT} {m:Mp} {o:Oper} {K:St→Prop} {Q:Exit→Act→World→Prop}
theorem GX {t:TypeId} {n:Nat} (h:ga P t=some (.ag n)):(isAgg t).run P w=.ok true w∧(sizeOf t).run P w=.ok n w:=by
  unfold ga at h;split at h
  ·rename_i i fs hi hu;cases h;exact⟨by unfold isAgg; simp[run_underlying hu],by simp[sizeOf,typeInfo,hi]⟩
  ·rename_i i n' el hi hu;cases h;exact⟨by unfold isAgg; simp[run_underlying hu],by simp[sizeOf,typeInfo,hi]⟩
  ·split at h <;> cases h
  ·cases h
theorem Pf {t:TypeId} (h:ga P t=some .sc):(isAgg t).run P w=.ok false w∧(sizeOf t).run P w=.ok 1 w:=by
  unfold ga at h;split at h
  ·cases h
  ·cases h
  ·rename_i i d hn1 hn2 hi hu;split at h
   ·rename_i h1;refine⟨?_,by simp[sizeOf,typeInfo,hi,h1]⟩;unfold isAgg;simp only[Sem.run_bind,run_underlying hu,Result.andThen_ok];simp_all
   ·cases h
  ·cases h
theorem Xd {t:TypeId} {kd:Kd} (h:ga P t=some kd):(sizeOf t).run P w=.ok kd.size w:=by
  cases kd with
  | sc=>exact (Pf h).2
  | ag n=>exact (GX h).2
def valOf:Kd→List Value→Value
  | .sc,us=>us.headD undef
  | .ag _,us=>.agg us.toArray
theorem Lz {t:TypeId} {kd:Kd} (ht:ga P t=some kd) (ad:Addr) (us:List Value) (hl:us.length=kd.size) (hc:∀ j v,us[j]?=some v→w.cell? (ad.add j)=some v):(loadVar t ad).run P w=.ok (valOf kd us) w:=by
  cases kd with
  | sc =>
    match us,hl with
    | [u],_ =>
      have:=hc 0 u rfl;rw[Addr.add_zero'] at this;simp[loadVar,(Pf (w:=w) ht).1,this,valOf]
  | ag n =>
    have hlen:us.length=n:=hl;have:=run_loadCells_list (P:=P) w ad us hc;rw[hlen] at this;simp[loadVar,(GX (w:=w) ht).1,(GX (w:=w) ht).2,this,valOf]
theorem Xe {t:TypeId} {kd:Kd} (ht:ga P t=some kd) (x:Operand) (ho:o.op=.load t x) (h:Inv G N Sin w0 σ a w S m) (hd:∀ t,o.dst=some t→t<N∧w0.fx t=none) (ad:Addr) (hv:a.eval x=.pointer (some ad)) (us:List Value) (hl:us.length=kd.size) (hc:∀ j v,us[j]?=some v→w.cell? (ad.add j)=some v)
    {y:W} (hy:RW m S w (valOf kd us) y) (hids:∀ i∈y.ids,σ.u i=true) (hK:K (σ.put o.dst (.w y,σ.h,σ.u))):o.wp P a w (Nx G N Sin w0 K) Q:=by
  refine gg h hd (x:=.w y) ?_ hy hids hK;simp only[execOp,ho,hv];refine dM ?_;simp[Instr.loadAt,Instr.sureAddr,Lz ht ad us hl hc]
theorem fI.list {ad:Addr} {cs:List D} (h:fI S w ad cs):∃ us:List Value,aD (Reads S w) us cs∧∀ j v,us[j]?=some v→w.cell? (ad.add j)=some v:=by
  have h1:∀ j,∃ v,∀ hj:j<cs.length,w.cell? ⟨ad.block,ad.off+j,ad.spot⟩=some v∧Reads S w v cs[j]:=by
    intro j;by_cases hj:j<cs.length
    ·obtain⟨v,_,h2,h3⟩:=h j hj;exact⟨v,fun _=>⟨h2,h3⟩⟩
    ·exact⟨undef,fun h=>absurd h hj⟩
  obtain⟨u,hu⟩:=Classical.axiomOfChoice h1;refine⟨(List.range cs.length).map u,.mk (by simp) fun i g1 g2=>by simpa using (hu i g2).2,fun j v hv=>?_⟩;have hj:j<cs.length:=by
    have:=(aqd.1 hv).1
    simpa using this
  simp[hj] at hv;subst hv;have h2:=(hu j hj).1;have hs:=cell_spot h2;obtain⟨b,off,sp⟩:=ad;simp only at hs;subst hs;rw[il];exact h2
theorem Nj {cs:List C} {cur:Array Value} {sz:Nat} (h:dw m S w sz cur (.box cs)):aD (RC m S w) (cur.toList.take cs.length) cs:=by
  have hle:=h.1;refine .mk (by simp; omega) fun i g1 g2=>?_
  obtain⟨v,h1,h2⟩:=h.2 i g2;grind
theorem Zf {s:Nat} {es:List D} {cur:Array Value} {sz:Nat} (h:dw m S w sz cur (.row s es)) {i:Nat} (hi:i<es.length):aD (Reads S w) ((cur.toList.drop (i*sz)).take sz) es[i].cells:=by
  have hle:i*sz+sz≤cur.size:=by
    have:=aqt sz (show i+1≤es.length by omega);rw[aqC] at this;have:=h.1;omega
  obtain⟨h0,h1⟩:=h.2 i hi;refine .mk (by simp[h0]; omega) fun j g1 g2=>?_
  grind
theorem Fi:∀ {es:List D} {us:List Value},us.length=es.length→(∀ i (h:i<es.length) (h2:i<us.length),es[i].cells.length=1∧∀ h3:0<es[i].cells.length,Reads S w us[i] es[i].cells[0])→aD (Reads S w) us (es.flatMap D.cells)
  | [],[],_,_=>.nil
  | [],_::_,h,_=>by simp at h
  | _::_,[],h,_=>by simp at h
  | e::es,u::us,hl,h=>by
    have h0:=h 0 (by simp) (by simp);simp only[arV] at h0;have he:∃ x,e.cells=[x]:=by
      match e.cells,h0.1 with
      | [x],_=>exact⟨x,rfl⟩
    obtain⟨x,hx⟩:=he;rw[aqb,hx];refine .cons ?_ (Fi (by simpa using hl) fun i g1 g2=>?_)
    ·have:=h0.2 (by rw[hx]; simp)
     simpa [hx] using this
    ·have:=h (i+1) (by simpa using g1) (by simpa using g2)
     simpa using this
theorem r7 {kd:Kd} {v:Value} {y:W} (ad:Addr) (hv:v=.pointer (some ad)) (us:List Value) (hl:us.length=kd.size) (hc:∀ j u,us[j]?=some u→w.cell? (ad.add j)=some u) (hy:RW m S w (valOf kd us) y) (hids:∀ i∈y.ids,σ.u i=true) :
    ∃ (ad:Addr) (us:List Value),v=.pointer (some ad)∧us.length=kd.size∧(∀ j u,us[j]?=some u→w.cell? (ad.add j)=some u)∧RW m S w (valOf kd us) y∧∀ i∈y.ids,σ.u i=true:=⟨ad,us,hv,hl,hc,hy,hids⟩
theorem T6 {vv:Value} {cs:List D} {ad:Addr} {kd:Kd} {y:W} (hv:vv=.pointer (some ad)) (hcs:fI S w ad cs)
    (hy:(match kd with | .sc=>(cs[0]?).map fun x=>W.c (C.d x) | .ag n=>if n≤cs.length then some (W.c (C.d (D.agg (cs.take n)))) else none)=some y) :
    ∃ (ad:Addr) (us:List Value),vv=.pointer (some ad)∧us.length=kd.size∧(∀ j u,us[j]?=some u→w.cell? (ad.add j)=some u)∧RW m S w (valOf kd us) y∧∀ i∈y.ids,σ.u i=true:=by
  obtain⟨us,hall,hcell⟩:=hcs.list;split at hy
  ·simp only[apV] at hy;obtain⟨c,hc,rfl⟩:=hy;obtain⟨v,hv2,hr⟩:=hall.get? hc;refine r7 _ hv [v] rfl (fun j u hj=>?_) (y:=.c (.d c)) (Reads.rw hr) (fun j hj=>by cases hj);grind
  ·rename_i n;split at hy
   ·rename_i hle;cases hy;refine r7 _ hv (us.take n) ?_ (fun j u hj=>?_) (y:=.c (.d (.agg (cs.take n)))) ⟨_,rfl,hall.take n⟩ (fun j hj=>by cases hj)
    ·rw[(hall.take n).length]; simp[Kd.size]; omega
    grind
   ·cases hy
theorem T7 (h:Inv G N Sin w0 σ a w S m) {vv:Value} {X:V} (h1:RV m S w vv X) {kd:Kd} {y:W} (hy:fc σ.h kd X=some y) :
    ∃ (ad:Addr) (us:List Value),vv=.pointer (some ad)∧us.length=kd.size∧(∀ j u,us[j]?=some u→w.cell? (ad.add j)=some u)∧RW m S w (valOf kd us) y∧∀ i∈y.ids,σ.u i=true:=by
  unfold fc at hy;split at hy
  ·rename_i id sz i off;obtain⟨b,hm,hv⟩:=h1;split at hy
   ·rename_i cs hob;have hobj:=h.obj id _ hob;have hk:=hobj.1;unfold bT at hk;rw[hm] at hk;obtain⟨hsz,_,_,cur,ty,fz,g4,_,g6⟩:=hk;simp only[Ob.sz] at hsz;subst hsz;have hall:=Nj g6;have hcell:∀ j v,(cur.toList.take cs.length)[i+off+j]?=some v→w.cell? ((⟨b,i*1+off,none⟩:Addr).add j)=some v:=fun j v hj=>by
      rw[il,cell_of_row w b _ cur ty fz g4];grind
    split at hy
    ·simp only[apV] at hy;obtain⟨c,hc,rfl⟩:=hy;obtain⟨v,hv2,hr⟩:=hall.get? hc;refine r7 _ hv [v] rfl (fun j u hj=>?_) (y:=.c c) (RC.rw hr) (fun j hj=>hobj.2.2 j (aqc.2 ⟨c,aqX hc,hj⟩));grind
    ·rename_i n;split at hy
     ·rename_i hle;cases hy;have hs:=(hall.drop (i+off)).take n;have hmk:=xZ hs;refine r7 _ hv (((cur.toList.take cs.length).drop (i+off)).take n) ?_ (fun j u hj=>?_) hmk.1 (fun j hj=>?_)
      ·have:=hs.length;rw[this];simp[Kd.size]; omega
      ·grind
      ·obtain⟨c,hc,hj'⟩:=aqc.1 (hmk.2 j hj);exact hobj.2.2 j (aqc.2 ⟨c,List.mem_of_mem_drop (List.mem_of_mem_take hc),hj'⟩)
     ·cases hy
   ·rename_i szr es hob;have hobj:=h.obj id _ hob;have hk:=hobj.1;unfold bT at hk;rw[hm] at hk;obtain⟨hsz,_,_,cur,ty,fz,g4,_,g6⟩:=hk;split at hy
    ·rename_i e he;obtain⟨hlt,rfl⟩:=aqd.1 he;have hall:=Zf g6 hlt;have hcell:∀ j v,((cur.toList.drop (i*sz)).take sz)[off+j]?=some v→w.cell? ((⟨b,i*sz+off,none⟩:Addr).add j)=some v:=fun j v hj=>by
       rw[il,cell_of_row w b _ cur ty fz g4];grind
     split at hy
     ·simp only[apV] at hy;obtain⟨c,hc,rfl⟩:=hy;obtain⟨v,hv2,hr⟩:=hall.get? hc;refine r7 _ hv [v] rfl (fun j u hj=>?_) (y:=.c (.d c)) (Reads.rw hr) (fun j hj=>by cases hj);grind
     ·rename_i n;split at hy
      ·rename_i hle;cases hy;have hs:=(hall.drop off).take n;refine r7 _ hv ((((cur.toList.drop (i*sz)).take sz).drop off).take n) ?_ (fun j u hj=>?_) (y:=.c (.d (.agg ((es[i].cells.drop off).take n)))) ⟨_,rfl,hs⟩ (fun j hj=>by cases hj)
       ·rw[hs.length];simp[Kd.size]; omega
       grind
      ·cases hy
    ·cases hy
   ·cases hy
  ·rename_i id sz;obtain⟨b,hm,hv⟩:=h1;split at hy
   ·rename_i szr es hob;split at hy
    ·rename_i hc;obtain⟨rfl,rfl⟩:=hc;cases hy;have hobj:=h.obj id _ hob;have hk:=hobj.1;unfold bT at hk;rw[hm] at hk;obtain⟨hsz,_,_,cur,ty,fz,g4,_,g6⟩:=hk;simp only[Ob.sz] at hsz;subst hsz;have hle:=g6.1;have hall:aD (Reads S w) (cur.toList.take es.length) (es.flatMap D.cells):=by
       refine Fi (by simp; omega) fun i q1 q2=>?_
       obtain⟨k1,k2⟩:=g6.2 i q1;grind
     refine r7 _ hv (cur.toList.take es.length) (by simp[Kd.size]; omega) (fun j u hj=>?_) (y:=.c (.d (.agg (es.flatMap D.cells)))) ⟨_,rfl,hall⟩ (fun j hj=>by cases hj);rw[il,cell_of_row w b _ cur ty fz g4];grind
    ·cases hy
   ·cases hy
  ·obtain⟨ad,hv,hcs⟩:=h1;exact T6 hv hcs hy
  ·rename_i es;obtain⟨ad,sz,hv,hrow⟩:=h1;split at hy
   ·rename_i hc;obtain⟨hc1,rfl⟩:=hc;cases hy;have hrow:=hrow.size (qg hc1);have h2:∀ i,∃ v,∀ hi:i<es.length,w.cell? ⟨ad.block,ad.off+i,ad.spot⟩=some v∧es[i].cells.length=1∧∀ h3:0<es[i].cells.length,Reads S w v es[i].cells[0]:=by
      intro i;by_cases hi:i<es.length
      ·obtain⟨q1,q2⟩:=hrow i hi;obtain⟨v,_,q3,q4⟩:=q2 0 (by omega);exact⟨v,fun _=>⟨by simpa using q3,q1,fun _=>q4⟩⟩
      ·exact⟨undef,fun h=>absurd h hi⟩
    obtain⟨u,hu⟩:=Classical.axiomOfChoice h2;refine r7 _ hv ((List.range es.length).map u) (by simp[Kd.size]) (fun j v hj=>?_) (y:=.c (.d (.agg (es.flatMap D.cells)))) ⟨_,rfl,?_⟩ (fun j hj=>by cases hj)
    ·have hjl:j<es.length:=by
       have:=(aqd.1 hj).1
       simpa using this
     simp[hjl] at hj;subst hj;have q:=(hu j hjl).1;have hs:=cell_spot q;obtain⟨b,off,sp⟩:=ad;grind [il]
    grind [Fi]
   ·cases hy
  ·obtain⟨ad,hv,hcs⟩:=Reads.cellsAt h1;exact T6 hv hcs hy
  ·cases hy
theorem Nk {t:TypeId} {kd:Kd} (ht:ga P t=some kd) (x:Operand) (x':SX) (ho:o.op=.load t x) (hx:be x=some x') (h:Inv G N Sin w0 σ a w S m) (hd:∀ t,o.dst=some t→t<N∧w0.fx t=none)
    {y:W} (hy:fc σ.h kd (ev G σ.f x')=some y) (hK:K (σ.put o.dst (.w y,σ.h,σ.u))):o.wp P a w (Nx G N Sin w0 K) Q:=by
  obtain⟨ad,us,h1,h2,h3,h4,h5⟩:=T7 h (h.operand hx).1 hy;exact Xe ht x ho h hd ad h1 us h2 h3 h4 h5 hK
theorem bR.alloc (h:Inv G N Sin w0 σ a w S m) (ob:Obj):bR S w (w.alloc ob) :=
  uJ (fun b i hs=>(h.sin b i hs).1) fun b hlt=>Below.heap_alloc w ob b hlt
theorem vI (h:Inv G N Sin w0 σ a w S m) (hd:∀ t,o.dst=some t→t<N∧w0.fx t=none) {id sz:Nat} {ob:Ob} {c:C} {v:Value} {cur:Array Value} {ty:TypeId} {fz:Nat×Nat} (hu:σ.u id=false) (hsz:ob.sz=sz) (hfz:iX cur fz)
    (hc:dw m S w sz cur ob) (hids:∀ j∈ob.ids,σ.u j=true) (hr:(execOp a.eval o).run P w=.ok (.value v) (w.alloc (.cells cur ty fz)))
    (hv:RC (upd m id (some (w.heap.size,sz))) S (w.alloc (.cells cur ty fz)) v c) (hci:c.ids=[id]) (hK:K (σ.put o.dst (.w (.c c),upd σ.h id (some ob),upd σ.u id true))) (hmp:ob.isMp=false:=by rfl):o.wp P a w (Nx G N Sin w0 K) Q :=
  fM (x:=.w (.c c)) (h.newOb hu hsz hfz hc hids hmp) hd hr (RC.rw hv) (fun i hi=>by
    have:i∈c.ids:=hi;grind [upd]) hK
theorem Pg (h:Inv G N Sin w0 σ a w.drew S m) (hd:∀ t,o.dst=some t→t<N∧w0.fx t=none) {id sz:Nat} {ob:Ob} {c:C} {v:Value} {cur:Array Value} {ty:TypeId} {fz:Nat×Nat} (hu:σ.u id=false) (hsz:ob.sz=sz) (hfz:iX cur fz)
    (hc:dw m S w.drew sz cur ob) (hids:∀ j∈ob.ids,σ.u j=true) (hr:(execOp a.eval o).run P w=.ok (.value v) (w.drew.alloc (.cells cur ty fz)))
    (hv:RC (upd m id (some (w.heap.size,sz))) S (w.drew.alloc (.cells cur ty fz)) v c) (hci:c.ids=[id]) (hK:K (σ.put o.dst (.w (.c c),upd σ.h id (some ob),upd σ.u id true))) (hmp:ob.isMp=false:=by rfl):o.wp P a w (Nx G N Sin w0 K) Q :=
  fM (x:=.w (.c c)) (h.newOb hu hsz hfz hc hids hmp) hd hr (RC.rw hv) (fun i hi=>by
    have:i∈c.ids:=hi;grind [upd]) hK
theorem oW (cur:Array Value):iX cur (0,0):=⟨ap3 _,fun h=>by simp at h⟩
theorem nk {h:aI} {u:Nat→Bool} {dst:Nat} {ob:Ob} {c:C} {r:R} (e:eU h u dst ob c=some r):u (8*dst)=false∧r=(.w (.c c),upd h (8*dst) (some ob),upd u (8*dst) true):=by
  grind [eU]
theorem Mg (w:World) (cur:Array Value) (ty:TypeId) (fz:Nat×Nat):(w.alloc (.cells cur ty fz)).shape? w.heap.size=some (ty,cur.size):=by
  unfold World.shape?;rw[heap_alloc_new]
theorem Wo (w:World) (cur:Array Value) (ty:TypeId) (fz:Nat×Nat) (i:Nat):(w.alloc (.cells cur ty fz)).cell? ⟨w.heap.size,i,none⟩=cur[i]?:=by
  rw[cell_of_row _ _ i cur ty fz (heap_alloc_new w _)]
theorem BZ {id sz n cap:Nat} {cur:Array Value} {ty:TypeId} {fz:Nat×Nat} (hn:n≤cap) (hcap:cap≤maxLen) (hs:cap*sz≤cur.size) :
    RC (upd m id (some (w.heap.size,sz))) S (w.alloc (.cells cur ty fz)) (.slice (some ⟨w.heap.size,0,none⟩) n cap) (.own id sz 0 n):=by
  show cO _ _ _ _ _ _ _
  unfold cO;simp only[upd,if_true];exact⟨trivial,_,cap,ty,cur.size,rfl,hn,hcap,fun _=>by simp,Mg _ _ _ _,by simpa using hs⟩
theorem Nl {cs:List C} {us:List Value} {sz:Nat} (h:aD (RC m S w) us cs):dw m S w sz us.toArray (.box cs):=by
  refine⟨by simp[h.length],fun j hj=>?_⟩;have hj':j<us.length:=by rw[h.length]; exact hj
  exact⟨us[j],by simp[hj'],h.get j hj' hj⟩
theorem Mh {cs:List D} {us:List Value} (h:aD (Reads S w) us cs) (s:Nat):dw m S w 1 us.toArray (.row s cs):=by
  refine⟨by simp[h.length],fun i hi=>?_⟩;have hi':i<us.length:=by rw[h.length]; exact hi
  have hr:=h.get i hi' hi;have hc:=hr.cellsOf;grind
theorem EJ {l:List Value} {cs:List C} (h:bE nZ l=some cs):aD (RC m S w) l cs∧cs.flatMap C.ids=[]:=by
  refine⟨(mn (R:=fun v c=>RC m S w v c∧c.ids=[]) (fun x y hxy=>⟨(Ao hxy).1,(Ao (m:=m) (S:=S) (w:=w) hxy).2.1⟩) h).weak fun _ _ _ _ h=>h.1,?_⟩;have:=mn (R:=fun v c=>c.ids=[]) (fun x y hxy=>(Ao (m:=m) (S:=S) (w:=w) hxy).2.1) h;clear h
  induction this with
  | nil=>rfl
  | cons h _ ih=>simp[h,ih]
theorem Xf (t:TypeId) (ho:o.op=.alloc t) {i:TypeInfo} (hi:P.info? t=some i) {zv:Value} (hz:i.zero=some zv) {cs:List C} (hcs:bE nZ zv.cells.toList=some cs)
    (h:Inv G N Sin w0 σ a w S m) (hd:∀ t,o.dst=some t→t<N∧w0.fx t=none) {r:R} (hr:ef (ev G σ.f) σ.h σ.u (o.dst.getD 0) (.alloc cs)=some r) (hK:K (σ.put o.dst r)):o.wp P a w (Nx G N Sin w0 K) Q:=by
  obtain⟨hu,rfl⟩:=nk hr;have hc:=EJ (m:=m) (S:=S) (w:=w) hcs;have hcell:=Nl (sz:=1) hc.1;rw[arj] at hcell;refine vI (sz:=1) (ob:=.box cs) (c:=.ptr (8*o.dst.getD 0) 1 0 0) h hd hu rfl (oW _) hcell (fun j hj=>by simp only[Ob.ids,hc.2] at hj; cases hj) (v:=.pointer (some ⟨w.heap.size,0,none⟩)) (ty:=t) ?_ ⟨w.heap.size,by simp[upd],by simp⟩ rfl hK;simp only[execOp,ho];refine dM ?_;simp[Instr.alloc,zeroValue,typeInfo,hi,hz,newVar,newRow]
theorem VU (t:TypeId) (ho:o.op=.alloc t) {i:TypeInfo} (hi:P.info? t=some i) {zv:Value} (hz:i.zero=some zv) {es:List D} (hes:bE pi zv.cells.toList=some es)
    (h:Inv G N Sin w0 σ a w S m) (hd:∀ t,o.dst=some t→t<N∧w0.fx t=none) {r:R} (hr:ef (ev G σ.f) σ.h σ.u (o.dst.getD 0) (.allocArr es)=some r) (hK:K (σ.put o.dst r)):o.wp P a w (Nx G N Sin w0 K) Q:=by
  obtain⟨hu,rfl⟩:=nk hr;have hcell:=Mh (m:=m) (mn (R:=Reads S w) (fun x y hxy=>tc hxy) hes) 1;rw[arj] at hcell;refine vI (sz:=1) (ob:=.row 1 es) (c:=.pa (8*o.dst.getD 0) 1) h hd hu rfl (oW _) hcell (fun j hj=>by cases hj) (v:=.pointer (some ⟨w.heap.size,0,none⟩)) (ty:=t) ?_ ⟨w.heap.size,by simp[upd],rfl⟩ rfl hK;simp only[execOp,ho];refine dM ?_;simp[Instr.alloc,zeroValue,typeInfo,hi,hz,newVar,newRow]
theorem acH (t:TypeId) (x:Operand) (x':SX) (mode:Bx) (ho:o.op=.box t x) (hx:be x=some x') (h:Inv G N Sin w0 σ a w S m) (hd:∀ t,o.dst=some t→t<N∧w0.fx t=none) {r:R} (hr:ef (ev G σ.f) σ.h σ.u (o.dst.getD 0) (.box mode x')=some r) (hK:K (σ.put o.dst r)):o.wp P a w (Nx G N Sin w0 K) Q:=by
  have h1:=h.operand hx;simp only[ef] at hr;split at hr
  ·cases hr
  ·rename_i y hy;obtain⟨hv,hxy⟩:=BX h1.1 hy;have hids:∀ i∈y.ids,σ.u i=true:=fun i hi=>h1.2 i (by rw[hxy]; exact hi)
   have run:(execOp a.eval o).run P w=.ok (.value (.pointer (some ⟨w.heap.size,0,none⟩))) (w.alloc (.cells (a.eval x).cells t)):=by
     simp only[execOp,ho];exact dM (by simp[Instr.box,newVar,newRow])
   obtain⟨us,hus,hall,hi⟩:=Ap hv;rw[hus] at run;split at hr
   ·obtain⟨hu,rfl⟩:=nk hr;exact vI (sz:=1) (ob:=.box (dX y)) (c:=.ptr (8*o.dst.getD 0) 1 0 0) h hd hu rfl (oW _) (Nl hall) (fun j hj=>hids j (hi ▸ hj)) run ⟨w.heap.size,by simp[upd],by simp⟩ rfl hK
   ·split at hr
    ·rename_i cs;obtain⟨hu,rfl⟩:=nk hr;obtain⟨us',e1,hall'⟩:=hv;have:us'.toArray=us.toArray:=by rw[← hus,e1]; rfl
     rw[← this] at run;exact vI (sz:=1) (ob:=.row 1 cs) (c:=.pa (8*o.dst.getD 0) 1) h hd hu rfl (oW _) (Mh hall' 1) (fun j hj=>by cases hj) run ⟨w.heap.size,by simp[upd],rfl⟩ rfl hK
    ·cases hr
   ·simp only[apV] at hr;obtain⟨cs,hcs,rfl⟩:=hr;have hall':=uY hcs hall;have k:=bR.alloc h (.cells us.toArray t);refine fM (h':=σ.h) (u':=σ.u) (h.newRo (.cells us.toArray t)) hd run (x:=.w (.c (.rp cs))) ⟨_,rfl,fun j hj=>?_⟩ (fun i hi=>by cases hi) hK;have hj':j<us.length:=by rw[hall'.length]; exact hj
    refine⟨us[j],.inr rfl,?_,((hall'.get j hj' hj).keep k).mono fun _ _ h=>.inl h⟩;simp_all
   ·split at hr
    ·rename_i cs;cases hr;obtain⟨us',e1,hall'⟩:=hv;have:us'.toArray=us.toArray:=by rw[← hus,e1]; rfl
     rw[← this] at run;have k:=bR.alloc h (.cells us'.toArray t);refine fM (h':=σ.h) (u':=σ.u) (h.newRo (.cells us'.toArray t)) hd run (x:=.w (.c (.ra cs))) ⟨_,1,rfl,fun i hi=>?_⟩ (fun i hi=>by cases hi) hK;have hi':i<us'.length:=by rw[hall'.length]; exact hi
     have hrd:=hall'.get i hi' hi;have hc:=hrd.cellsOf;refine⟨by rw[hc]; rfl,fun j hj=>?_⟩;obtain rfl:j=0:=by rw[hc] at hj; simpa using hj
     refine⟨us'[i],.inr rfl,?_,?_⟩
     ·simp_all
     ·have:cs[i].cells[0]=cs[i]:=by simp[hc]
      rw[this];exact (hrd.keep k).mono fun _ _ h=>.inl h
    ·cases hr
theorem Wp (x:Operand) (ho:o.op=.move x∨o.op=.assign x) (hx:be x=some (.k (.c .nil))) (s:Nat) (h:Inv G N Sin w0 σ a w S m) (hd:∀ t,o.dst=some t→t<N∧w0.fx t=none) {r:R} (hr:ef (ev G σ.f) σ.h σ.u (o.dst.getD 0) (.nilOwn s)=some r) (hK:K (σ.put o.dst r)):o.wp P a w (Nx G N Sin w0 K) Q:=by
  obtain⟨hu,rfl⟩:=nk hr;obtain⟨ad,hv⟩:∃ ad,a.eval x=.slice ad 0 0:=(h.operand hx).1
  refine fM (h.newNil (sz:=s) hu) hd (v:=.slice ad 0 0) ?_ (x:=.w (.c (.own (8*o.dst.getD 0) s 0 0))) ?_ (fun i hi=>?_) hK
  ·unfold execOp;rcases ho with ho | ho <;> rw[ho] <;> simp[hv]
  ·show cO _ _ _ _ _ _ _
   unfold cO;simp only[upd,if_true];exact⟨⟨_,rfl⟩,trivial,trivial⟩
  ·have:i∈[8*o.dst.getD 0]:=hi;simp only[apY] at this;simp[upd,this]
theorem VP {z:Array Value} {n i:Nat} (h:i<n) (hz:0<z.size):(madeCells z n)[i]?=z[i%z.size]?:=by
  have hlt:i%z.size<z.size:=arw _ hz;simp[madeCells,h,hlt]
theorem VM {i sz j:Nat} (h:j<sz):(i*sz+j)%sz=j:=by
  rw[Nat.add_comm,Nat.add_mul_mod_self_right,ar3 h]
theorem Aq {e:TypeId} {s b:Nat} {z:D} {zv:Value} (hz:∀ S w,aD (Reads S w) zv.cells.toList z.cells) (hlen:z.cells.length=s) (hpos:0<s) (n c:Nat) (hn:n≤c) (s':Nat):dw m S w s (madeCells zv.cells (c*s)) (.row s' (List.replicate n z)):=by
  have hzs:zv.cells.size=s:=by have:=(hz S w).length; rw[← hlen,← this]; simp
  refine⟨by rw[size_madeCells,aqo]; exact aqt _ hn,fun i hi=>?_⟩;rw[aqo] at hi;rw[List.getElem_replicate];refine⟨hlen,fun j hj=>?_⟩;have hj':j<s:=by omega
  have hj2:j<zv.cells.toList.length:=by simp; omega
  refine⟨zv.cells.toList[j],?_,(hz S w).get j hj2 hj⟩;have hlt:i*s+j<c*s:=by
    have:=aqt s (show i+1≤c by omega);rw[aqC] at this;omega
  grind [VP,VM]
theorem Zg (t e:TypeId) {own:Bool} {s b:Nat} {z:D} (ht:gZ P t=some (e,s,b,z)) (l c:Operand) (l' c':SX) (ho:o.op=.makeSlice t l c) (hl:be l=some l') (hc:be c=some c') (h:Inv G N Sin w0 σ a w S m) (hd:∀ t,o.dst=some t→t<N∧w0.fx t=none)
    {r:R} (hr:ef (ev G σ.f) σ.h σ.u (o.dst.getD 0) (.make own s b z l' c')=some r) (hK:K (σ.put o.dst r)):o.wp P a w (Nx G N Sin w0 K) Q:=by
  obtain⟨hu0,he⟩:=nU ht;obtain⟨i,zv,hi,hs,hb,hz,hpos,hlen,hrd⟩:=mr he;simp only[ef] at hr;split at hr
  ·rename_i x y hx hy;split at hr
   ·rename_i hcond;have e1:=oa (h.operand hl).1 hx;have e2:=oa (h.operand hc).1 hy;have hbb:(i.bytes:Int)*y≤281474976710656:=by rw[hb,Int.mul_comm]; omega
    have run:=run_make (P:=P) w t e i zv hu0 hi hz .i64 .i64 x y hcond.1 hcond.2.1 hbb (by omega);rw[hs] at run;split at hr
    ·obtain⟨hu,rfl⟩:=nk hr;refine vI (sz:=s) (ob:=.row s (List.replicate x.toNat z)) (c:=.own (8*o.dst.getD 0) s 0 x.toNat) h hd hu rfl (oW _) (Aq (e:=e) (b:=b) hrd hlen hpos x.toNat y.toNat (by omega) s) (fun j hj=>by cases hj) (v:=.slice (some ⟨w.heap.size,0,none⟩) x.toNat y.toNat) (ty:=e) ?_ (BZ (by omega) (by simp only[maxLen]; omega) (by rw[size_madeCells]; exact ap3 _)) rfl hK;simp only[execOp,ho,e1,e2];exact dM run
    ·cases hr;have hm:=Aq (m:=m) (S:=fun b i=>S b i∨b=w.heap.size) (w:=w.alloc (.cells (madeCells zv.cells (y.toNat*s)) e)) (e:=e) (b:=b) hrd hlen hpos x.toNat y.toNat (by omega) s;refine fM (h':=σ.h) (u':=σ.u) (h.newRo (.cells (madeCells zv.cells (y.toNat*s)) e)) hd (v:=.slice (some ⟨w.heap.size,0,none⟩) x.toNat y.toNat) (by simp only[execOp,ho,e1,e2]; exact dM run) (x:=vd (.sl (List.replicate x.toNat z))) ?_ (fun i hi=>by cases hi) hK;have rd:=Reads.of_row (S:=fun b i=>S b i∨b=w.heap.size) (w:=w.alloc (.cells (madeCells zv.cells (y.toNat*s)) e)) (a:=⟨w.heap.size,0,none⟩) (cap:=y.toNat) (sz:=s) (es:=List.replicate x.toNat z) (fun i hi=>⟨(hm.2 i hi).1,fun j hj=>by
       obtain⟨v,hv,hrv⟩:=(hm.2 i hi).2 j hj;simp_all⟩) (by rw[aqo]; omega) (by simp only[maxLen]; omega)
     rw[aqo] at rd;exact rd.rw (m:=m)
   ·cases hr
  ·cases hr
theorem Lr (s:ByteArray) (cap i:Nat) (hi:i<s.data.toList.length):(bytesRow s cap)[i]?=some (.int .u8 (s.data.toList[i].toNat:Int)):=by
  have:=bytesRow_at s cap i (by simpa using hi)
  simpa using this
theorem acI (src t e:TypeId) (hsrc:P.underlying src=some .string) (ht:P.underlying t=some (.slice e)) (he:P.underlying e=some (.int .u8)) (own:Bool) (x:Operand) (x':SX) (ho:o.op=.convert src t x) (hx:be x=some x') (h:Inv G N Sin w0 σ a w S m) (hd:∀ t,o.dst=some t→t<N∧w0.fx t=none) {r:R} (hr:ef (ev G σ.f) σ.h σ.u (o.dst.getD 0) (.s2b own x')=some r) (hK:K (σ.put o.dst r)):o.wp P a w (Nx G N Sin w0 K) Q:=by
  have hv:=(h.operand hx).1;simp only[ef] at hr;split at hr
  ·rename_i s e1;split at hr
   case isFalse=>cases hr
   rename_i h63;rw[e1] at hv;have hval:=tB hv;have run:=run_bytes_of_string (P:=P) w src t e s hsrc ht he;have hrun:(execOp a.eval o).run P w=.ok (.value (.slice (some ⟨w.heap.size,0,none⟩) s.size (grownCap w s.size 0 e))) (w.drew.alloc (.cells (bytesRow s (grownCap w s.size 0 e)) e ((bytesRow s (grownCap w s.size 0 e)).size,(bytesRow s (grownCap w s.size 0 e)).size+1))):=by
     simp only[execOp,ho,hval];exact dM run
   have hcap:=grownCap_ge w s.size 0 e;have hcm:=grownCap_le_maxLen w s.size 0 e h63;have hsz:(bytesRow s (grownCap w s.size 0 e)).size=grownCap w s.size 0 e:=by
     simp only[bytesRow,Array.size_append,Array.size_map,Array.size_replicate]
     show s.size+_=_
     omega
   have hlen:(s.data.toList.map bD).length=s.size:=by simp
   have hth:iX (bytesRow s (grownCap w s.size 0 e)) ((bytesRow s (grownCap w s.size 0 e)).size,(bytesRow s (grownCap w s.size 0 e)).size+1):=⟨Nat.le_succ _,fun _=>ap3 _⟩
   split at hr
   ·obtain⟨hu,rfl⟩:=nk hr;refine Pg (sz:=1) (ob:=.row 1 (s.data.toList.map bD)) (c:=.own (8*o.dst.getD 0) 1 0 s.size) h.drew hd hu rfl hth ?_ (fun j hj=>by cases hj) hrun (BZ (w:=w.drew) (by omega) hcm (by rw[hsz]; omega)) rfl hK;refine⟨by rw[hlen,hsz]; omega,fun i hi=>?_⟩;rw[ap1] at hi;simp only[aqn,bD,D.cells];refine⟨rfl,fun j hj=>?_⟩;simp only[aqw] at hj;obtain rfl:j=0:=by omega
    exact⟨_,by rw[arD,ark]; exact Lr s _ i hi,.int _ _⟩
   ·cases hr;refine fM (h':=σ.h) (u':=σ.u) (h.drew.newRo _) hd hrun (x:=vd (.sl (s.data.toList.map bD))) ?_ (fun i hi=>by cases hi) hK
    have rd:=Reads.of_row (S:=fun b i=>S b i∨b=w.drew.heap.size) (w:=w.drew.alloc (.cells (bytesRow s (grownCap w s.size 0 e)) e ((bytesRow s (grownCap w s.size 0 e)).size,(bytesRow s (grownCap w s.size 0 e)).size+1)))
      (a:=⟨w.heap.size,0,none⟩) (cap:=grownCap w s.size 0 e) (sz:=1) (es:=s.data.toList.map bD) (fun i hi=>by
       rw[ap1] at hi;simp only[aqn,bD,D.cells];refine⟨rfl,fun j hj=>?_⟩;simp only[aqw] at hj;obtain rfl:j=0:=by omega
       refine⟨.int .u8 (s.data.toList[i].toNat:Int),.inr rfl,?_,.int _ _⟩
       show (w.drew.alloc _).cell? ⟨w.drew.heap.size,0+i*1+0,none⟩=_
       grind [Wo,Lr]) (by rw[hlen]; exact hcap) hcm
    rw[hlen] at rd;exact rd.rw (m:=m)
  ·cases hr
theorem Ph (t e:TypeId) (ht:P.underlying t=some (.slice e)) (he:P.underlying e=some (.int .u8)) (x:Operand) (x':SX) (ho:o.op=.convert t t x) (hx:be x=some x') (h:Inv G N Sin w0 σ a w S m) {id sz off n sz':Nat} {es:List D} (e1:ev G σ.f x'=.w (.c (.own id sz off n))) (ho1:σ.h id=some (.row sz' es)) (hn:0<n) :
    ∃ v w1,(execOp a.eval o).run P w=.ok (.value v) w1∧Inv G N Sin w0 σ a w1 S m∧RV m S w1 v (.w (.c (.own id sz off n)))∧∀ i∈(V.w (.c (.own id sz off n))).ids,σ.u i=true:=by
  have hv:=h.operand hx;rw[e1] at hv;obtain⟨ok1,ok2,ok3⟩:=h.obj id _ ho1;have hw:cO m w (a.eval x) id sz off n:=hv.1;unfold cO at hw;unfold bT at ok1;cases hm:m id with
  | none=>grind
  | some p =>
    obtain⟨b,s⟩:=p;rw[hm] at ok1;simp only[hm] at hw;obtain⟨rfl,ad,cap,ty,M,hval,hc1,hc2,hc3,hc4,hc5⟩:=hw;obtain⟨g1,g2,g3,cur,ty0,fz,g4,g5,g6⟩:=ok1;have g4:w.heap[b]?=some (.cells cur ty0 fz):=g4;have hb:ad.block=b:=by rw[hc3 (.inl (by omega))]
    obtain⟨lo,hi⟩:=fz;have hshape:w.shape? ad.block=some (ty0,cur.size):=by unfold World.shape?; rw[hb,g4]
    have hfz:w.freeze ⟨ad.block,cur.size,none⟩ 1={ w with heap:=w.heap.modify b fun | .cells c elem (lo,hi)=>.cells c elem (if lo==hi then (cur.size,cur.size+1) else (min lo cur.size,max hi (cur.size+1))) | o=>o }:=by
      unfold World.freeze;rw[if_neg (by decide),hb];rfl
    have run:(execOp a.eval o).run P w=.ok (.value (.slice (some ad) n cap)) (w.freeze ⟨ad.block,cur.size,none⟩ 1):=by
      simp only[execOp,ho,hval];refine dM ?_;simp[convert,run_underlying ht,run_underlying he,markStringish,hshape]
    have hcur':(w.freeze ⟨ad.block,cur.size,none⟩ 1).heap[b]?=some (.cells cur ty0 (if lo==hi then (cur.size,cur.size+1) else (min lo cur.size,max hi (cur.size+1)))):=by
      rw[hfz];simp[Array.getElem?_modify,g4]
    have hother:∀ k,k≠b→(w.freeze ⟨ad.block,cur.size,none⟩ 1).heap[k]?=w.heap[k]?:=fun k hk=>by
      grind
    have hth:iX cur (if lo==hi then (cur.size,cur.size+1) else (min lo cur.size,max hi (cur.size+1))):=by
      obtain⟨t1,t2⟩:=g5;simp only at t1 t2;split
      ·exact⟨Nat.le_succ _,fun _=>ap3 _⟩
      ·rename_i hne;have hne:lo≠hi:=by simpa using hne
       have:=t2 (by omega);exact⟨by simp only; omega,fun _=>by simp only; omega⟩
    have hbel:dz w0.heap.size w0.ext w0 (w.freeze ⟨ad.block,cur.size,none⟩ 1):=by
      refine h.below.trans ?_;rw[hfz];exact⟨rfl,rfl,rfl,by simp,fun k hk hx=>by
        simp only[Array.getElem?_modify];rw[if_neg fun e=>by
         have e':k=b:=by omega
         subst e';exact (g2:w0.may k).elim (fun h=>by omega) hx]⟩
    have hinv:=h.mark ho1 hm g4 hcur' hth hother hbel (by rw[hfz]; simp);refine⟨_,_,run,hinv,?_,fun i hi=>hv.2 i hi⟩
    show cO m _ _ _ _ _ _
    unfold cO;simp only[hm];refine⟨trivial,ad,cap,ty0,cur.size,rfl,hc1,hc2,hc3,?_,?_⟩
    ·unfold World.shape?; rw[hcur']
    grind
theorem Zh (t e:TypeId) (ht:P.underlying t=some (.slice e)) (he:P.underlying e=some (.int .u8)) (x:Operand) (x':SX) (ho:o.op=.convert t t x) (hx:be x=some x') (h:Inv G N Sin w0 σ a w S m) (hd:∀ t,o.dst=some t→t<N∧w0.fx t=none) {r:R} (hr:ef (ev G σ.f) σ.h σ.u (o.dst.getD 0) (.mark x')=some r) (hK:K (σ.put o.dst r)):o.wp P a w (Nx G N Sin w0 K) Q:=by
  simp only[ef] at hr;split at hr
  ·rename_i id sz off n e1;split at hr
   ·rename_i sz' es ho1;split at hr
    ·rename_i hsz;cases hr;obtain⟨v,w1,run,hinv,hv,hu⟩:=Ph t e ht he x x' ho hx h e1 ho1 hsz.2;exact fM (h':=σ.h) (u':=σ.u) hinv hd run (x:=.w (.c (.own id sz off n))) hv hu hK
    ·cases hr
   ·cases hr
  ·cases hr
end
section
variable {P:Program} {G:au} {N:Nat} {Sin:aT} {w0:Gh} {σ:St} {a:Act} {w:World} {S:aT} {m:Mp} {o:Oper} {K:St→Prop} {Q:Exit→Act→World→Prop}
def qN (h:aI) (m:Mp) (S:aT):aT:=fun b i=>S b i∨∃ id o s,h id=some o∧m id=some (b,s)
theorem qN.lt (h:Inv G N Sin w0 σ a w S m):∀ b i,qN σ.h m S b i→b<w.heap.size:=by
  rintro b i (hs | ⟨id,ob,s,ho,hm⟩)
  ·exact (h.sin b i hs).1
  ·exact (h.obj id ob ho).1.lt hm
theorem kw {sz:Nat}:∀ {es:List D},(∀ e∈es,e.cells.length=sz)→(es.flatMap D.cells).length=es.length*sz
  | [],_=>by simp
  | e::es,h=>by
    rw[aqb,apS,kw fun x hx=>h x (by simp[hx]),h e (by simp),aqx,aqC]; omega
theorem flat_get {sz:Nat}:∀ {es:List D},(∀ e∈es,e.cells.length=sz)→∀ i (hi:i<es.length) j,j<sz→(es.flatMap D.cells)[i*sz+j]?=es[i].cells[j]?
  | e::es,h,0,_,j,hj=>by
    grind
  | e::es,h,i+1,hi,j,hj=>by
    have he:=h e (by simp);have e1:(i+1)*sz+j-sz=i*sz+j:=by rw[aqC]; omega
    rw[aqb,aql (by rw[he,aqC]; omega),he,e1,flat_get (fun x hx=>h x (by simp[hx])) i (by simpa using hi) j hj];simp
theorem E3 {s sz:Nat} {es:List D} {cur:Array Value} (h:dw m S w sz cur (.row s es)):(∀ e∈es,e.cells.length=sz)∧aD (Reads S w) (cur.toList.take (es.length*sz)) (es.flatMap D.cells):=by
  have hsz:∀ e∈es,e.cells.length=sz:=fun e he=>by
    obtain⟨i,hi,rfl⟩:=aqs he;exact (h.2 i hi).1
  have hle:=h.1;refine⟨hsz,.mk (by rw[kw hsz]; simp; omega) fun k h1 h2=>?_⟩;rw[kw hsz] at h2;have hpos:0<sz:=by
    grind
  have hi:k / sz<es.length:=by rw[Nat.div_lt_iff_lt_mul hpos]; exact h2
  have hj:k%sz<sz:=arw _ hpos;have hk:k / sz*sz+k%sz=k:=by rw[arL]; exact Nat.div_add_mod k sz
  have hg:=flat_get hsz (k / sz) hi (k%sz) hj;obtain⟨h3,h4⟩:=h.2 (k / sz) hi;grind
theorem Ln {s sz:Nat} {es:List D} {cur:Array Value} (hsz:∀ e∈es,e.cells.length=sz) (hle:es.length*sz≤cur.size) (h:aD (Reads S w) (cur.toList.take (es.length*sz)) (es.flatMap D.cells)):dw m S w sz cur (.row s es):=by
  refine⟨hle,fun i hi=>?_⟩;have h3:=hsz es[i] (aqr hi);refine⟨h3,fun j hj=>?_⟩;have hj':j<sz:=by omega
  have hg:=flat_get hsz i hi j hj';rw[apR hj] at hg;obtain⟨v,h4,h5⟩:=h.get? hg;grind
theorem fI.append {ad:Addr} {cs ds:List D} (h:fI S w ad cs) (k:fI S w ⟨ad.block,ad.off+cs.length,ad.spot⟩ ds):fI S w ad (cs++ds):=by
  intro j hj;by_cases hlt:j<cs.length
  ·obtain⟨v,h1,h2,h3⟩:=h j hlt;exact⟨v,h1,h2,by rw[List.getElem_append_left hlt]; exact h3⟩
  ·rw[apS] at hj;obtain⟨v,h1,h2,h3⟩:=k (j-cs.length) (by omega);grind
theorem fJ.flat:∀ {es:List D} {ad:Addr} {sz:Nat},fJ S w ad sz es→fI S w ad (es.flatMap D.cells)
  | [],_,_,_=>fun j hj=>by simp at hj
  | e::es,ad,sz,h=>by
    have h0:=h 0 (by simp);simp only[arV,ar4,ark] at h0;have ht:fJ S w ⟨ad.block,ad.off+sz,ad.spot⟩ sz es:=fun i hi=>by
      have:=h (i+1) (by simpa using hi);grind
    rw[aqb];refine fI.append h0.2 ?_;rw[h0.1];exact ht.flat
theorem Nm (h:Inv G N Sin w0 σ a w S m) {T:aT} (hT:∀ b i,S b i→T b i) {v:Value} {id sz off n:Nat} {es:List D} (hid:∀ b s i u x,m id=some (b,s)→w.cell? ⟨b,i,none⟩=some u→Reads S w u x→x∈es.flatMap D.cells→T b i) (hv:cO m w v id sz off n) {ob:Ob} (ho:σ.h id=some ob) (e:fZ ob off n=some es):Reads T w v (.sl es)∧es.length=n:=by
  have hk:=(h.obj id ob ho).1;unfold cO at hv;unfold bT at hk;split at hv
  ·grind [fZ,Reads.zero]
  ·rename_i b sz' hm;rw[hm] at hk;obtain⟨rfl,ad,cap,ty,M,rfl,h2,h3,h4,h5,h6⟩:=hv;obtain⟨k1,k2,k3,cur,ty',fz,k4,k5,k6⟩:=hk;have hin:∀ i u x,w.cell? ⟨b,i,none⟩=some u→Reads S w u x→x∈es.flatMap D.cells→T b i:=fun i u x=>hid b sz' i u x hm
   have hlen:es.length=n:=by
     cases ob with
     | row s es' =>
       grind [fZ]
     | box cs =>
       simp only[fZ] at e;split at e
       ·have:=Bm e;have hl:=congrArg List.length this;grind
       ·cases e
     | mp q es'=>cases e
     | it q l p=>cases e
   refine⟨?_,hlen⟩;rw[← hlen];refine Reads.of_row (sz:=sz') ?_ (by omega) h3;intro i hi;have hcap:0<cap:=by omega
   rw[h4 (.inl hcap)];cases ob with
   | mp q es'=>cases e
   | it q l p=>cases e
   | row s es' =>
     simp only[fZ] at e;split at e
     ·rename_i hle;cases e;rw[ap0,ap5] at hi;have hidx:off+i<es'.length:=by omega
      obtain⟨q1,q2⟩:=k6.2 (off+i) hidx;have eg:((es'.drop off).take n)[i]'(by rw[ap0,ap5]; omega)=es'[off+i]:=by rw[ar1,List.getElem_drop]
      rw[eg];refine⟨q1,fun j hj=>?_⟩;obtain⟨v,q3,q4⟩:=q2 j hj;have e2:off*sz'+i*sz'+j=(off+i)*sz'+j:=by rw[aqC]
      have hcell:w.cell? ⟨b,off*sz'+i*sz'+j,none⟩=some v:=by
        rw[cell_of_row w b _ cur ty' fz k4];simp only[e2];exact q3
      refine⟨v,hin _ v _ hcell q4 ?_,hcell,q4.mono hT⟩;grind
     ·cases e
   | box cs =>
     simp only[Ob.sz] at k1;subst k1;simp only[fZ] at e;split at e
     ·rename_i hle;have hall:=Bm e;have hidx:off+i<cs.length:=by omega
      obtain⟨v,q3,q4⟩:=k6.2 (off+i) hidx;have eg:cs[off+i]=C.d es[i]:=by
        have hl:i<((cs.drop off).take n).length:=by rw[ap0,ap5]; omega
        have h1:((cs.drop off).take n)[i]'hl=cs[off+i]:=by rw[ar1,List.getElem_drop]
        rw[← h1];simp only[hall,aqn]
      rw[eg] at q4;have q5:Reads S w v es[i]:=q4;have hc:=q5.cellsOf;refine⟨by rw[hc]; rfl,fun j hj=>?_⟩;obtain rfl:j=0:=by rw[hc] at hj; simpa using hj
      have hcell:w.cell? ⟨b,off*1+i*1+0,none⟩=some v:=by
        rw[cell_of_row w b _ cur ty' fz k4];grind
      refine⟨v,hin _ v _ hcell q5 (aqc.2 ⟨es[i],aqr _,by rw[hc]; exact apY.2 rfl⟩),hcell,?_⟩;have:es[i].cells[0]=es[i]:=by simp[hc]
      rw[this];exact q5.mono hT
     ·cases e
theorem acJ (h:Inv G N Sin w0 σ a w S m) {T:aT} (hT:∀ b i,S b i→T b i) {v:Value} {id sz off n:Nat} (hid:∀ b s i,m id=some (b,s)→T b i) (hv:cO m w v id sz off n) {ob:Ob} (ho:σ.h id=some ob) {es:List D} (e:fZ ob off n=some es):Reads T w v (.sl es)∧es.length=n :=
  Nm h hT (fun b s i _ _ hm _ _ _=>hid b s i hm) hv ho e
theorem Ca (h:Inv G N Sin w0 σ a w S m) {T:aT} (hT:∀ b i,S b i→T b i) {v:Value} {c:C} (hid:∀ id∈c.ids,∀ o b s i,σ.h id=some o→m id=some (b,s)→T b i) (hv:RC m S w v c) {d:D} (e:gm σ.h c=some d):Reads T w v d:=by
  cases c <;> simp only[gm] at e <;> first | (cases e; done) | skip
  ·cases e; exact Reads.mono hv hT
  ·cases e;obtain⟨ad,rfl⟩:∃ ad,v=.slice ad 0 0:=hv
   exact Reads.zero ad
  ·split at e
   ·rename_i ob ho;simp only[apV] at e;obtain⟨es,he,rfl⟩:=e;exact (acJ h hT (fun b s i hm=>hid _ (by simp[C.ids]) ob b s i ho hm) hv ho he).1
   ·cases e
theorem Pi (h:Inv G N Sin w0 σ a w S m) {T:aT} (hT:∀ b i,S b i→T b i):∀ {us:List Value} {cs:List C} {ds:List D},(∀ id∈cs.flatMap C.ids,∀ o b s i,σ.h id=some o→m id=some (b,s)→T b i)→aD (RC m S w) us cs→ma σ.h cs=some ds→aD (Reads T w) us ds
  | _,_,_,_,.nil,e=>by simp only[ma,ap2] at e; subst e; exact .nil
  | _,_,_,hid,.cons h1 h2,e=>by
    simp only[ma] at e;split at e
    ·rename_i x l h3 h4;cases e;exact .cons (Ca h hT (fun id hi=>hid id (by simp[hi])) h1 h3) (Pi h hT (fun id hi=>hid id (by rw[aqb]; exact aqi _ hi)) h2 h4)
    ·cases e
theorem yG (h:Inv G N Sin w0 σ a w S m) {T:aT} (hT:∀ b i,S b i→T b i) {v:Value} {x:W} (hid:∀ id∈x.ids,∀ o b s i,σ.h id=some o→m id=some (b,s)→T b i) (hv:RW m S w v x) {d:D} (e:toW σ.h x=some d):RW (fun _=>none) T w v (.c (.d d)):=by
  unfold toW at e;split at e
  ·rename_i c;by_cases hc:∃ cs,c=.d (.agg cs)
   ·obtain⟨cs,rfl⟩:=hc;simp only[gm,ap2] at e;subst e;obtain⟨us,h1,h2⟩:=hv;exact⟨us,h1,h2.weak fun _ _ _ _ h=>h.mono hT⟩
   ·have hv':RC m S w v c:=by
      unfold RW at hv;grind
    exact (Ca h hT hid hv' e).rw
  ·simp only[apV] at e;obtain⟨ds,he,rfl⟩:=e;obtain⟨us,h1,h2⟩:=hv;exact⟨us,h1,Pi h hT hid h2 he⟩
theorem GY (h:Inv G N Sin w0 σ a w S m) {T:aT} (hT:∀ b i,S b i→T b i) {v:Value} {id sz i o:Nat} (hid:∀ ob b s i,σ.h id=some ob→m id=some (b,s)→T b i) (hv:∃ b,m id=some (b,sz)∧v=.pointer (some ⟨b,i*sz+o,none⟩)) {d:D} (e:pF σ.h id i o=some d):Reads T w v d:=by
  unfold pF at e;split at e
  ·rename_i cs ho;split at e
   ·rename_i hz;obtain⟨rfl,rfl⟩:=hz;simp only[apV] at e;obtain⟨ds,hds,rfl⟩:=e;obtain⟨b,hm,rfl⟩:=hv;have ob:=(h.obj id _ ho).1;unfold bT at ob;rw[hm] at ob;obtain⟨_,_,_,cur,ty,fz,k4,_,k6⟩:=ob;have k4':w.heap[b]?=some (.cells cur ty fz):=k4;obtain⟨us,hu,hc⟩:∃ us:List Value,aD (RC m S w) us cs∧∀ j u,us[j]?=some u→cur[j]?=some u:=by
      refine⟨cur.toList.take cs.length,.mk (by have:=k6.1; simp; omega) fun j h1 h2=>?_,fun j u hj=>?_⟩
      ·obtain⟨u,q1,q2⟩:=k6.2 j h2;grind
      ·rw[aq5] at hj;split at hj
       ·rw[← aq1]; exact hj
       ·cases hj
    have hr:=uY hds hu;refine Reads.of_cells fun j hj=>?_
    have hl:=hr.length;refine⟨us[j],hid _ b sz _ ho hm,?_,(hr.get j (by omega) hj).mono hT⟩;rw[cell_of_row w b _ cur ty fz k4'];grind
   ·cases e
  ·cases e
theorem GZ (h:Inv G N Sin w0 σ a w S m) {T:aT} (hT:∀ b i,S b i→T b i):∀ {vs:List Value} {ps:List Cp} {ds:List D},(∀ id∈ps.flatMap Cp.ids,∀ ob b s i,σ.h id=some ob→m id=some (b,s)→T b i)→aD (fu m S w) vs ps→mb σ.h ps=some ds→aD (Reads T w) vs ds
  | _,_,_,_,.nil,e=>by simp only[mb,ap2] at e; subst e; exact .nil
  | _,.d x::r,_,hid,.cons h1 h2,e=>by
    simp only[mb,apV] at e;obtain⟨l,hl,rfl⟩:=e;exact .cons (Reads.mono h1 hT) (GZ h hT (fun id hi=>hid id (by rw[aqb]; exact aqi _ hi)) h2 hl)
  | _,.p id sz i o::r,_,hid,.cons h1 h2,e=>by
    simp only[mb] at e;split at e
    ·rename_i x l h3 h4;cases e;exact .cons (GY h hT (fun ob b s i ho hm=>hid id (by simp[Cp.ids]) ob b s i ho hm) h1 h3) (GZ h hT (fun id hi=>hid id (by rw[aqb]; exact aqi _ hi)) h2 h4)
    ·cases e
theorem ahG (h:Inv G N Sin w0 σ a w S m) {T:aT} (hT:∀ b i,S b i→T b i) {v:Value} {c:C} (hid:∀ id∈c.ids,∀ o b s i,σ.h id=some o→m id=some (b,s)→T b i) (hv:RW m S w v (.c c)) {d:D} (e:jc σ.h c=some d):RW (fun _=>none) T w v (.c (.d d)):=by
  have old:gm σ.h c=some d→RW (fun _=>none) T w v (.c (.d d)):=fun e'=>yG (x:=.c c) h hT hid hv e'
  cases c with
  | ptr id sz i o=>exact (GY h hT (fun ob b s i ho hm=>hid id (by simp[C.ids]) ob b s i ho hm) hv e).rw
  | cf g pre post =>
    simp only[jc] at e;split at e
    ·rename_i hp;simp only[apV] at e;obtain⟨ds,hds,rfl⟩:=e;obtain⟨us,vs,rfl,k1,k2⟩:∃ us vs:List Value,v=.func (.func g) us.toArray vs.toArray∧aD (fu m S w) us pre∧aD (fu m S w) vs post:=hv
     obtain rfl:pre=[]:=by simpa using hp
     cases k1;have k3:=GZ h hT (fun id hi=>hid id (by simp only[C.ids,ar5,aqz]; exact hi)) k2 hds;have hl:=k3.length;refine Reads.rw (.fn g vs ds (fun j=>vs.getD j undef) hl (fun j hj=>?_) fun j hj=>?_)
     ·rw[apT,apR hj]; rfl
     ·have:=k3.get j (by omega) hj;grind
    ·cases e
  | d x=>exact old e
  | nil=>exact old e
  | own id sz off n=>exact old e
  | _=>cases e
theorem Pj (h:Inv G N Sin w0 σ a w S m) {T:aT} (hT:∀ b i,S b i→T b i) {v:Value} {x:V} (hid:∀ id∈x.ids,∀ o b s i,σ.h id=some o→m id=some (b,s)→T b i) (hv:RV m S w v x) {d:D} (e:js σ.h x=some d):RW (fun _=>none) T w v (.c (.d d)):=by
  unfold js at e;split at e
  ·exact ahG h hT hid hv e
  ·exact yG (x:=.mix _) h hT hid hv e
  ·cases e
theorem Rx (h:Inv G N Sin w0 σ a w S m) {v:Value} {x:V} (hv:RV m S w v x) {d:D} (e:js σ.h x=some d):RW (fun _=>none) (qN σ.h m S) w v (.c (.d d)) :=
  Pj h (fun _ _ h=>.inl h) (fun id _ ob b s i ho hm=>.inr ⟨id,ob,s,ho,hm⟩) hv e
def sH (h:aI) (m:Mp) (S:aT) (w:World):aT:=fun b i=>S b i∨((∃ id o s,h id=some o∧m id=some (b,s))∧∀ n,w.cell? ⟨b,i,none⟩≠some (.int .u8 n))
theorem sH.lt (h:Inv G N Sin w0 σ a w S m):∀ b i,sH σ.h m S w b i→b<w.heap.size:=by
  rintro b i (hs | ⟨⟨id,ob,s,ho,hm⟩,_⟩)
  ·exact (h.sin b i hs).1
  ·exact (h.obj id ob ho).1.lt hm
theorem acK (h:Inv G N Sin w0 σ a w S m) {v:Value} {x:V} (hv:RV m S w v x) {d:D} (e:js σ.h x=some d) (ho1:x.own1=true) (hd:d.noU8=true):RW (fun _=>none) (sH σ.h m S w) w v (.c (.d d)):=by
  unfold V.own1 at ho1;split at ho1
  ·rename_i id sz off n;simp only[js,jc,gm] at e;split at e
   ·rename_i ob hob;simp only[apV] at e;obtain⟨es,he,rfl⟩:=e;refine Reads.rw (Nm h (T:=sH σ.h m S w) (fun _ _ h=>.inl h) (fun b s i u x hm hc hr hx=>.inr ⟨⟨id,ob,s,hob,hm⟩,fun n hn=>?_⟩) (show cO m w v id sz off n from hv) hob he).1;rw[hc,ap2] at hn;subst hn;obtain⟨y,hy1,hy2⟩:=aqc.1 hx;simp only[D.noU8,ap9] at hd;have:=hd y hy1 x hy2;cases hr;simp[D.isU8] at this
   ·cases e
  ·cases ho1
theorem FX {v:Value} {x:W} (hv:RW m S w v x) {d:D} (e:my x=some d):∃ us:List Value,v.cells=us.toArray∧aD (Reads S w) us d.cells:=by
  unfold my at e;split at e
  ·rename_i y;cases e;by_cases hc:∃ cs,d=.agg cs
   ·obtain⟨cs,rfl⟩:=hc;obtain⟨us,rfl,h2⟩:=hv;exact⟨us,rfl,h2⟩
   ·have hv':Reads S w v d:=by
      cases d with
      | agg cs=>exact absurd ⟨_,rfl⟩ hc
      | _=>exact hv
    refine⟨[v],?_,?_⟩
    ·have:=hv'.oneCell;cases v <;> first | rfl | (simp[Value.oneCell'] at this; done)
    ·rw[hv'.cellsOf]; exact .cons hv' .nil
  ·cases e;obtain⟨ad,rfl⟩:∃ ad,v=.slice ad 0 0:=hv
   exact⟨[.slice ad 0 0],rfl,.cons (Reads.zero ad) .nil⟩
  ·simp only[apV] at e;obtain⟨ds,he,rfl⟩:=e;obtain⟨us,rfl,h2⟩:=hv;exact⟨us,rfl,uY he h2⟩
  ·cases e
theorem Reads.sl_of_rw {v:Value} {es:List D} (h:RW (fun _=>none) S w v (.c (.d (.sl es)))):Reads S w v (.sl es):=h
theorem Nn:∀ {es:List D} {l:List UInt8},sA es=some l→es=l.map bD
  | [],l,h=>by simp[sA] at h; subst h; rfl
  | x::es,l,h=>by
    simp only[sA] at h;split at h
    ·rename_i b k h1 h2;cases h;rw[Nn h2];unfold K7 at h1;split at h1
     ·split at h1
      ·cases h1;simp only[apW,List.cons.injEq,and_true,bD,D.int.injEq,true_and,UInt8.toNat_ofNat'];omega
      ·cases h1
     ·cases h1
    ·cases h
theorem acL (src t e:TypeId) (hsrc:P.underlying src=some (.slice e)) (he:P.underlying e=some (.int .u8)) (ht:P.underlying t=some .string) (x:Operand) (x':SX) (ho:o.op=.convert src t x) (hx:be x=some x') (h:Inv G N Sin w0 σ a w S m) (hd:∀ t,o.dst=some t→t<N∧w0.fx t=none)
    {es:List D} (hes:js σ.h (ev G σ.f x')=some (.sl es)) {l:List UInt8} (hl:sA es=some l) (hK:K (σ.put o.dst (vd (.str ⟨l.toArray⟩),σ.h,σ.u))):o.wp P a w (Nx G N Sin w0 K) Q:=by
  have hv:=Reads.sl_of_rw (Rx h (h.operand hx).1 hes);obtain rfl:=Nn hl;refine i7 h hd (v:=.string ⟨l.toArray⟩) ?_ (.str _) hK;simp only[execOp,ho];refine dM ?_;rcases hv.row with ⟨h1,h2⟩ | ⟨ad,cap,sz,h1,h2,h3,h4⟩
  ·rw[h1];have:l=[]:=by simpa using h2
   subst this;rw[run_convert_bytes_nil w src e hsrc he 0 0 t ht];rfl
  ·rw[h1,ap1];refine run_convert_bytes_back w src t e ad cap l hsrc he ht fun j hj=>?_
   obtain⟨q1,q2⟩:=h4 j (by simpa using hj);simp only[aqn,bD,D.cells,aqw] at q1 q2;subst q1;obtain⟨v,_,q3,q4⟩:=q2 0 (by simp);have hs:=cell_spot q3;obtain⟨b,off,sp⟩:=ad;simp only at hs;subst hs;rw[il];simp only[arD,ark] at q3;rw[q3];simp only[arV] at q4;cases q4;rfl
def jm (cur:Array Value) (o:Nat):List Value→Array Value
  | []=>cur
  | v::r=>jm (cur.setIfInBounds o v) (o+1) r
theorem kY:∀ (vs:List Value) (cur:Array Value) (o:Nat),(jm cur o vs).size=cur.size
  | [],_,_=>rfl
  | v::r,cur,o=>by rw[jm,kY r]; simp
theorem oU:∀ (vs:List Value) (cur:Array Value) (o k:Nat),k<o∨o+vs.length≤k→(jm cur o vs)[k]?=cur[k]?
  | [],_,_,_,_=>rfl
  | v::r,cur,o,k,h=>by
    rw[jm,oU r _ _ _ (by simp at h; omega),Array.getElem?_setIfInBounds_ne (by simp at h; omega)]
theorem qm:∀ (vs:List Value) (cur:Array Value) (o j:Nat),o+vs.length≤cur.size→∀ hj:j<vs.length,(jm cur o vs)[o+j]?=some vs[j]
  | v::r,cur,o,0,h,_=>by
    grind [jm,oU]
  | v::r,cur,o,j+1,h,hj=>by
    have:=qm r (cur.setIfInBounds o v) (o+1) j (by simp at h ⊢; omega) (by simpa using hj);rw[jm,show o+(j+1)=o+1+j by omega]
    simpa using this
theorem uK {b:Nat} {ty:TypeId} {fz:Nat×Nat}:∀ (vs:List Value) (o:Nat) (w:World) (cur:Array Value),w.heap[b]?=some (.cells cur ty fz)→(w.setCells b o vs).heap[b]?=some (.cells (jm cur o vs) ty fz)
  | [],_,_,_,h=>h
  | v::r,o,w,cur,h=>by
    rw[World.setCells,jm];refine uK r (o+1) _ _ ?_;rw[setCell_eq_setRow w b o cur ty fz v h];exact setRow_heap w b cur _ ty fz h
theorem xG {b:Nat}:∀ (vs:List Value) (o:Nat) (w:World) (k:Nat),k≠b→(w.setCells b o vs).heap[k]?=w.heap[k]?
  | [],_,_,_,_=>rfl
  | v::r,o,w,k,h=>by rw[World.setCells,xG r _ _ _ h,Below.heap_setCell _ _ _ _ h]
theorem setCells_size {b:Nat}:∀ (vs:List Value) (o:Nat) (w:World),(w.setCells b o vs).heap.size=w.heap.size
  | [],_,_=>rfl
  | v::r,o,w=>by rw[World.setCells,setCells_size r]; simp
theorem xH {b:Nat} {w0:Gh} (hB:w0.may b):∀ (vs:List Value) (o:Nat) (w:World),dz w0.heap.size w0.ext w0 w→dz w0.heap.size w0.ext w0 (w.setCells b o vs)
  | [],_,_,h=>h
  | v::r,o,w,h=>by
    rw[World.setCells];refine xH hB r _ _ (h.trans ?_);have k:=(Below.refl 0 w).setCell (p:=⟨b,o,none⟩) (apZ _) v;exact⟨k.os,k.tape,k.output,k.size,fun i hi hx=>Below.heap_setCell _ _ _ _ fun e=>by
      subst e;exact hB.elim (fun h=>by omega) hx⟩
theorem xJ {α:Type} (l:List α) (off:Nat) (cs:List α) (h:off+cs.length≤l.length):(eO l off cs).length=l.length:=by
  simp[eO]; omega
theorem x5 {α:Type} (l:List α) (off:Nat) (cs:List α) (h:off+cs.length≤l.length) (k:Nat):(eO l off cs)[k]?=if off≤k∧k<off+cs.length then cs[k-off]? else l[k]?:=by
  unfold eO;have hl:(l.take off).length=off:=by rw[ap0]; omega
  grind
theorem Fj {b i:Nat} {cur:Array Value} {ty:TypeId} {fz:Nat×Nat} (h:w.heap[b]?=some (.cells cur ty fz)) (hf:iX cur fz) (hi:i<cur.size):w.frozen? ⟨b,i,none⟩=false:=by
  have:=hf.cell i hi;unfold World.frozen?;grind
theorem VV {t:TypeId} {kd:Kd} (ht:ga P t=some kd) {b off:Nat} {v:Value} {us:List Value} (hv:v.cells=us.toArray) (hl:us.length=kd.size) (h1:∀ u∈us,u.oneCell'=true) {cur:Array Value} {ty:TypeId} {fz:Nat×Nat} (hc:w.heap[b]?=some (.cells cur ty fz)) (hf:iX cur fz) (hle:off+us.length≤cur.size) :
    (storeVar t ⟨b,off,none⟩ v).run P w=.ok () (w.setCells b off us):=by
  have:=run_storeCells_cells (P:=P) b off us 0 w (fun j hj=>by
   rw[cell_of_row w b _ cur ty fz hc];have:off+j<cur.size:=by omega
   simp[this]) (fun j hj=>Fj hc hf (by omega)) h1
  have hs:v.cells.size=kd.size:=by rw[hv]; simpa using hl
  simp[storeVar,Xd (w:=w) ht,hv,hl]
  simpa using this
theorem E4 {t:TypeId} {kd:Kd} (ht:ga P t=some kd) (x y:Operand) (ho:o.op=.store t x y) (hdst:o.dst=none) (h:Inv G N Sin w0 σ a w S m) {id b sz off:Nat} {ob ob':Ob} (hob:σ.h id=some ob) (hm:m id=some (b,sz)) (hx:a.eval x=.pointer (some ⟨b,off,none⟩)) {us:List Value} (hv:(a.eval y).cells=us.toArray) (hl:us.length=kd.size) (h1:∀ u∈us,u.oneCell'=true)
    {cur:Array Value} {ty:TypeId} {fz:Nat×Nat} (hc:w.heap[b]?=some (.cells cur ty fz)) (hf:iX cur fz) (hle:off+us.length≤cur.size) (hB:w0.may b) (hsz:ob'.sz=sz) (hcells:dw m S w sz (jm cur off us) ob') (hids:∀ j∈ob'.ids,σ.u j=true)
    (hK:K (σ.put o.dst (.undef,upd σ.h id (some ob'),σ.u))) (hmp:ob'.isMp=false:=by rfl):o.wp P a w (Nx G N Sin w0 K) Q:=by
  have run:=VV (w:=w) ht (off:=off) hv hl h1 hc hf hle;refine Ru (w':=w.setCells b off us) ?_ ?_
  ·simp only[execOp,ho,hx];simp[Instr.storeAt,Instr.sureAddr,run]
  ·have hI:=h.write (w':=w.setCells b off us) hob hm hsz hc (uK us off w cur hc) (kY _ _ _) (fun k hk=>xG us off w k hk) hcells hids (xH hB us off w h.below) (setCells_size us off w) hmp;have:=hI.put o.dst (v:=undef) (x:=.undef) (by rw[hdst]; intro t ht; cases ht) trivial (fun i hi=>by cases hi);exact⟨_,S,m,hK,this⟩
theorem D.cells_ne {d:D}:d.one=true∨∃ cs,d=.agg cs:=by cases d <;> first | exact .inl rfl | exact .inr ⟨_,rfl⟩
theorem Xg {t:TypeId} {kd:Kd} (ht:ga P t=some kd) (x y:Operand) (x' y':SX) (ho:o.op=.store t x y) (hdst:o.dst=none) (hx:be x=some x') (hy:be y=some y') (h:Inv G N Sin w0 σ a w S m)
    {yw:W} (hyw:j9 (ev G σ.f y')=some yw) {h':aI} (hst:aa σ.h kd (ev G σ.f x') yw=some h') (hK:K (σ.put o.dst (.undef,h',σ.u))):o.wp P a w (Nx G N Sin w0 K) Q:=by
  have h1:=h.operand hx;have h2:=h.operand hy;obtain⟨hv,hyx⟩:=BX h2.1 hyw;have hyids:∀ i∈yw.ids,σ.u i=true:=fun i hi=>h2.2 i (by rw[hyx]; exact hi)
  unfold aa at hst;split at hst
  ·rename_i id psz i off e1;rw[e1] at h1;obtain⟨⟨b,hm,hxv⟩,_⟩:=h1;split at hst
   ·rename_i ob hob;have hobj:=h.obj id ob hob;have hk:=hobj.1;unfold bT at hk;rw[hm] at hk;obtain⟨hsz,hB,_,cur,ty,fz,k4,k5,k6⟩:=hk;simp only[apV] at hst;obtain⟨ob',hob',rfl⟩:=hst;cases ob with
    | mp q es'=>cases hob'
    | it q l p=>cases hob'
    | box cs =>
      simp only[Ob.sz] at hsz;subst hsz;simp only[oA] at hob';split at hob'
      ·rename_i hc;cases hob';obtain⟨us,hus,hall,hi⟩:=Ap hv;have hul:us.length=kd.size:=by rw[hall.length]; exact hc.1
       have hcs:=k6.1;have hone:∀ u∈us,u.oneCell'=true:=fun u hu=>by
         obtain⟨j,hj,rfl⟩:=aqs hu;exact (hall.get j hj (by rw[← hall.length]; exact hj)).one
       refine E4 ht x y ho hdst h hob hm hxv hus hul hone k4 k5 (by omega) hB rfl ?_ (fun j hj=>?_) hK
       ·have hlen:=xJ cs (i+off) (dX yw) (by omega);refine⟨by rw[hlen,kY]; exact hcs,fun j hj=>?_⟩;have hjl:j<cs.length:=by rw[hlen] at hj; exact hj
        have hg:=x5 cs (i+off) (dX yw) (by omega) j;rw[apR hj] at hg;by_cases hin:i+off≤j∧j<i+off+(dX yw).length
        ·rw[if_pos hin] at hg;obtain⟨v,q1,q2⟩:=hall.get? hg.symm;obtain⟨q3,q4⟩:=aqd.1 q1;refine⟨v,?_,q2⟩;have:=qm us cur (i*1+off) (j-(i+off)) (by omega) q3;grind
        ·rw[if_neg hin,apR hjl,ap2] at hg;obtain⟨v,q1,q2⟩:=k6.2 j hjl;grind [oU]
       ·have hmem:j∈(eO cs (i+off) (dX yw)).flatMap C.ids:=hj;unfold eO at hmem;simp only[arn,aqg] at hmem;rcases hmem with (hm1 | hm1) | hm1
        ·obtain⟨c,hc1,hc2⟩:=aqc.1 hm1;exact hobj.2.2 j (aqc.2 ⟨c,List.mem_of_mem_take hc1,hc2⟩)
        ·rw[hi] at hm1; exact hyids j hm1
        ·obtain⟨c,hc1,hc2⟩:=aqc.1 hm1;exact hobj.2.2 j (aqc.2 ⟨c,List.mem_of_mem_drop hc1,hc2⟩)
      ·cases hob'
    | row s es =>
      simp only[Ob.sz] at hsz;subst hsz;obtain⟨hle,krow⟩:=k6;have hmono:∀ j,j<es.length→j*s+s≤cur.size:=fun j hj=>by
        have:=aqt s (show j+1≤es.length by omega);rw[aqC] at this;omega
      have key:∀ (hi:i<es.length) (e':D) (us:List Value),(a.eval y).cells=us.toArray→us.length=kd.size→(∀ u∈us,u.oneCell'=true)→off+us.length≤s→e'.cells.length=s →
          (∀ j (hj:j<e'.cells.length),(off≤j∧j<off+us.length→∃ v,us[j-off]?=some v∧Reads S w v e'.cells[j])∧(¬ (off≤j∧j<off+us.length)→e'.cells[j]?=es[i].cells[j]?)) →
          True→K (σ.put o.dst (.undef,upd σ.h id (some (.row s (es.set i e'))),σ.u))→o.wp P a w (Nx G N Sin w0 K) Q:=by
        intro hi e' us hus hul hone hfit hlen hnew _ hK';have hmi:=hmono i hi;refine E4 (ob':=.row s (es.set i e')) ht x y ho hdst h hob hm hxv hus hul hone k4 k5 (by omega) hB rfl ⟨by rw[arq,kY]; exact hle,fun q hq=>?_⟩ (fun j hj=>by cases hj) hK';rw[arq] at hq;rw[ar6];by_cases hqi:i=q
        ·subst hqi;rw[if_pos rfl];refine⟨hlen,fun j hj=>?_⟩;obtain⟨n1,n2⟩:=hnew j hj;by_cases hin:off≤j∧j<off+us.length
         ·obtain⟨v,q1,q2⟩:=n1 hin;obtain⟨q3,q4⟩:=aqd.1 q1;refine⟨v,?_,q2⟩;have:=qm us cur (i*s+off) (j-off) (by omega) q3;grind
         grind [oU]
        ·rw[if_neg hqi];obtain⟨p1,p2⟩:=krow q hq;refine⟨p1,fun j hj=>?_⟩;obtain⟨v,q1,q2⟩:=p2 j hj;refine⟨v,?_,q2⟩;rw[oU us cur (i*s+off) _ ?_]
         ·exact q1
         ·rcases aqk q i with hlt | hge
          ·have:=aqt s (show q+1≤i by omega);rw[aqC] at this;omega
          ·have:=aqt s (show i+1≤q by omega);rw[aqC] at this;omega
      simp only[oA] at hob';split at hob'
      ·rename_i e xd he hxd;obtain⟨hi,rfl⟩:=aqd.1 he;obtain⟨us,hus,hall⟩:=FX hv hxd;have hone:∀ u∈us,u.oneCell'=true:=fun u hu=>by
         obtain⟨j,hj,rfl⟩:=aqs hu;exact (hall.get j hj (by rw[← hall.length]; exact hj)).oneCell
       have p1:=(krow i hi).1;split at hob'
       ·rename_i ds heq;split at hob'
        ·rename_i hc;cases hob';have hds:es[i].cells=ds:=by rw[heq]; rfl
         rw[hds] at p1;have hul:us.length=kd.size:=by rw[hall.length]; exact hc.1
         have hR:=xJ ds off xd.cells (by omega);refine key hi (.agg (eO ds off xd.cells)) us hus hul hone (by omega) (by show (eO ds off xd.cells).length=s; omega) (fun j hj=>?_) trivial hK;have hj':j<(eO ds off xd.cells).length:=hj;have hg:=x5 ds off xd.cells (by omega) j;have hlu:=hall.length;refine⟨fun hin=>?_,fun hin=>?_⟩
         ·rw[if_pos (by omega),apR hj'] at hg;exact hall.get? hg.symm
         ·rw[if_neg (by omega)] at hg;rw[hds];exact hg
        ·cases hob'
       ·split at hob'
        ·rename_i hnot hc;cases hob';obtain⟨rfl,rfl,hx1⟩:=hc;have hxc:=D.one_cells hx1;rw[hxc] at hall;have hul:us.length=1:=hall.length;have hes1:es[i].one=true:=by
           rcases D.cells_ne (d:=es[i]) with h3 | ⟨cs,h3⟩
           ·exact h3
           ·exact absurd h3 (hnot cs)
         have hes:s=1:=by rw[← p1,D.one_cells hes1]; rfl
         refine key hi xd us hus hul hone (by omega) (by rw[hxc,hes]; rfl) (fun j hj=>?_) trivial hK;rw[hxc] at hj;simp only[aqw] at hj;obtain rfl:j=0:=by omega
         refine⟨fun _=>?_,fun hn=>by omega⟩;refine⟨us[0],by simp[hul],?_⟩;have:=hall.get 0 (by omega) (by simp)
         simpa [hxc] using this
        ·cases hob'
      ·cases hob'
   ·cases hst
  ·rename_i id psz e1;rw[e1] at h1;obtain⟨⟨b,hm,hxv⟩,_⟩:=h1;split at hst
   ·rename_i s es cs hob;split at hst
    ·rename_i hc;obtain⟨rfl,rfl,hlen⟩:=hc;cases hst;have hobj:=h.obj id _ hob;have hk:=hobj.1;unfold bT at hk;rw[hm] at hk;obtain⟨hsz,hB,_,cur,ty,fz,k4,k5,k6⟩:=hk;simp only[Ob.sz] at hsz;subst hsz;obtain⟨us,hus,hall⟩:=hv;have hul:us.length=es.length:=by rw[hall.length]; exact hlen
     have hone:∀ u∈us,u.oneCell'=true:=fun u hu=>by
       obtain⟨j,hj,rfl⟩:=aqs hu;exact (hall.get j hj (by rw[← hall.length]; exact hj)).oneCell
     have hle:=k6.1;refine E4 (ob':=.row 1 cs) ht x y ho hdst h hob hm hxv (us:=us) (by rw[hus]; rfl) hul hone k4 k5 (by omega) hB rfl ⟨by rw[hlen,kY]; exact hle,fun i hi=>?_⟩ (fun j hj=>by cases hj) hK;have hi':i<us.length:=by omega
     have hr:=hall.get i hi' hi;have hcc:=hr.cellsOf;refine⟨by rw[hcc]; rfl,fun j hj=>?_⟩;obtain rfl:j=0:=by rw[hcc] at hj; simpa using hj
     refine⟨us[i],?_,?_⟩
     ·have:=qm us cur 0 i (by omega) hi'
      simpa using this
     grind
    ·cases hst
   ·cases hst
  ·cases hst
end
section
variable {P:Program} {G:au} {N:Nat} {Sin:aT} {w0:Gh} {σ:St} {a:Act} {w:World} {S:aT} {m:Mp} {o:Oper} {K:St→Prop} {Q:Exit→Act→World→Prop}
theorem aD.mk? {α β:Type} {R:α→β→Prop} {l:List α} {k:List β} (hl:l.length=k.length) (h:∀ (i:Nat) (x:α) (y:β),l[i]?=some x→k[i]?=some y→R x y):aD R l k :=
  .mk hl fun i h1 h2=>h i _ _ (apR h1) (apR h2)
theorem FY (off:Nat):∀ (us:List Value) (k:Nat) (cells:Array Value),(us.zipIdx k).foldl (fun cs (x:Value×Nat)=>cs.setIfInBounds (off+x.2) x.1) cells=jm cells (off+k) us
  | [],_,_=>rfl
  | v::r,k,cells=>by
    rw[List.zipIdx_cons,aq6,FY off r (k+1),jm];rfl
theorem Zi {cur:Array Value} {cs:List C} (h:aD (RC m S w) cur.toList cs) {us:List Value} {ds:List C} (k:aD (RC m S w) us ds) {off:Nat} (hle:off+ds.length≤cs.length):aD (RC m S w) (jm cur off us).toList (eO cs off ds):=by
  have hl:=h.length;have hk:=k.length;simp only[arC] at hl;refine .mk? (by rw[arC,kY,xJ _ _ _ hle]; exact hl) fun i x y hx hy=>?_
  rw[x5 _ _ _ hle] at hy;rw[aq1] at hx;by_cases hin:off≤i∧i<off+ds.length
  ·rw[if_pos hin] at hy;obtain⟨v,h1,h2⟩:=k.get? hy;obtain⟨h3,h4⟩:=aqd.1 h1;have:=qm us cur off (i-off) (by omega) h3;grind
  ·rw[if_neg hin] at hy;rw[oU us cur off i (by omega)] at hx;obtain⟨v,h1,h2⟩:=h.get? hy;grind
theorem Np {cs ds:List C} {off:Nat} {p:Nat→Prop} (h1:∀ i∈cs.flatMap C.ids,p i) (h2:∀ i∈ds.flatMap C.ids,p i):∀ i∈(eO cs off ds).flatMap C.ids,p i:=by
  grind [eO]
theorem FZ {u:Nat→Bool} {ρ:SX→V} (place:Nat→Option (Nat×Nat)):∀ {ps:List (Nat×Operand)} {qs:List (Nat×Nat×SX)} {cs cs':List C} {cur:Array Value},aD (RC m S w) cur.toList cs→(∀ i∈cs.flatMap C.ids,u i=true) →
    aD (fun p q=>place p.1=some (q.1,q.2.1)∧RV m S w (a.eval p.2) (ρ q.2.2)∧∀ i∈(ρ q.2.2).ids,u i=true) ps qs→parts ρ qs cs=some cs'→∃ cur',Instr.fill place cur (ps.map fun x=>(x.1,a.eval x.2))=some cur'∧aD (RC m S w) cur'.toList cs'∧∀ i∈cs'.flatMap C.ids,u i=true
  | _,_,cs,cs',cur,hall,hids,.nil,e=>by
    simp only[parts,ap2] at e;subst e;exact⟨cur,rfl,hall,hids⟩
  | (i,x)::ps,(off,size,x')::qs,cs,cs',cur,hall,hids,.cons hpq hrest,e=>by
    obtain⟨hp,h1⟩:=hpq;simp only[parts] at e;split at e
    ·rename_i y hy;split at e
     ·rename_i hc;obtain⟨hv,hyx⟩:=BX h1.1 hy;obtain⟨us,hus,hus2,hi⟩:=Ap hv;have hul:us.length=size:=by rw[hus2.length]; exact hc.1
      have hcl:cur.size=cs.length:=by have:=hall.length; simpa using this
      have hnew:=Zi hall hus2 (off:=off) (by omega);obtain⟨cur',g1,g2,g3⟩:=FZ place hnew (Np hids fun j hj=>h1.2 j (by rw[hyx]; show j∈y.ids; rw[← hi]; exact hj)) hrest e;refine⟨cur',?_,g2,g3⟩;simp only[apW,Instr.fill,hp,hus];have hsz:us.toArray.size=size:=by simpa using hul
      rw[if_neg (by simp[hsz]; omega)];have:=FY off us 0 cur;grind
     ·cases e
    ·cases e
theorem acM (h:Inv G N Sin w0 σ a w S m) (place:Nat→Option (Nat×Nat)) {ps:List (Nat×Operand)} {qs:List (Nat×Nat×SX)} {cs cs':List C} {cur:Array Value} (hall:aD (RC m S w) cur.toList cs) (hids:∀ i∈cs.flatMap C.ids,σ.u i=true)
    (hq:aD (fun p q=>place p.1=some (q.1,q.2.1)∧be p.2=some q.2.2) ps qs) (e:parts (ev G σ.f) qs cs=some cs'):∃ cur',Instr.fill place cur (ps.map fun x=>(x.1,a.eval x.2))=some cur'∧aD (RC m S w) cur'.toList cs'∧∀ i∈cs'.flatMap C.ids,σ.u i=true :=
  FZ place hall hids (hq.weak fun _ _ _ _ h1=>⟨h1.1,h.operand h1.2⟩) e
theorem Mi (t:TypeId) (ps:Array (Nat×Operand)) (ho:o.op=.build t ps) (place:Nat→Option (Nat×Nat)) (zv:Value) (hb:∀ l cells,Instr.fill place zv.cells l=some cells→P.built t l=some cells) {cs:List C} (hcs:bE nZ zv.cells.toList=some cs)
    {qs:List (Nat×Nat×SX)} (hq:aD (fun p q=>place p.1=some (q.1,q.2.1)∧be p.2=some q.2.2) ps.toList qs) (h:Inv G N Sin w0 σ a w S m) (hd:∀ t,o.dst=some t→t<N∧w0.fx t=none)
    {cs':List C} (hp:parts (ev G σ.f) qs cs=some cs') (hK:K (σ.put o.dst (.w (jC cs'),σ.h,σ.u))):o.wp P a w (Nx G N Sin w0 K) Q:=by
  have hz:=EJ (m:=m) (S:=S) (w:=w) hcs;obtain⟨cur',h1,h2,h3⟩:=acM h place hz.1 (fun i hi=>by rw[hz.2] at hi; cases hi) hq hp;have hmk:=xZ h2;rw[arj] at hmk;refine gg h hd (x:=.w (jC cs')) ?_ hmk.1 (fun i hi=>h3 i (hmk.2 i hi)) hK;simp only[execOp,ho];refine dM (run_build w t _ cur' (hb _ _ ?_));rw[← h1]
  congr 1
  simp
theorem acN {s sz:Nat} {es:List D} {cur:Array Value} (h:dw m S w sz cur (.row s es)) {i:Nat} (hi:i<es.length) {e:D} {us:List Value} (he:e.cells.length=sz) (hall:aD (Reads S w) us e.cells):dw m S w sz (jm cur (i*sz) us) (.row s (es.set i e)):=by
  obtain⟨hle,krow⟩:=h;have hmi:i*sz+sz≤cur.size:=by
    have:=aqt sz (show i+1≤es.length by omega);rw[aqC] at this;omega
  have hul:=hall.length;refine⟨by rw[arq,kY]; exact hle,fun q hq=>?_⟩;rw[arq] at hq;rw[ar6];by_cases hqi:i=q
  ·subst hqi;rw[if_pos rfl];refine⟨he,fun j hj=>?_⟩;have hju:j<us.length:=by omega
   exact⟨us[j],qm us cur (i*sz) j (by omega) hju,hall.get j hju hj⟩
  ·rw[if_neg hqi];obtain⟨p1,p2⟩:=krow q hq;refine⟨p1,fun j hj=>?_⟩;obtain⟨v,q1,q2⟩:=p2 j hj;refine⟨v,?_,q2⟩;rw[oU us cur (i*sz) _ ?_]
   ·exact q1
   ·rcases aqk q i with hlt | hge
    ·have:=aqt sz (show q+1≤i by omega);rw[aqC] at this;omega
    ·have:=aqt sz (show i+1≤q by omega);rw[aqC] at this;omega
theorem Fl {ρ:SX→V} {sz:Nat}:∀ {ps:List (Nat×Operand)} {qs:List (Nat×SX)} {es es':List D} {cur:Array Value},dw m S w sz cur (.row sz es) →
    aD (fun p q=>p.1=q.1∧RV m S w (a.eval p.2) (ρ q.2)) ps qs→elems ρ sz qs es=some es'→∃ cur',Instr.fill (fun i=>some (i*sz,sz)) cur (ps.map fun x=>(x.1,a.eval x.2))=some cur'∧dw m S w sz cur' (.row sz es')∧es'.length=es.length∧cur'.size=cur.size
  | _,_,es,es',cur,hall,.nil,e=>by
    simp only[elems,ap2] at e;subst e;exact⟨cur,rfl,hall,rfl,rfl⟩
  | (i,x)::ps,(i',x')::qs,es,es',cur,hall,.cons hpq hrest,e=>by
    obtain⟨hp,hx⟩:=hpq;simp only at hp;subst hp;simp only[elems] at e;split at e
    ·rename_i y hy;split at e
     ·rename_i hc;have h1:=hx;have hpw:∃ wv,ρ x'=.w wv∧my wv=some y:=by
        unfold CW at hy;grind
      obtain⟨wv,hw,hpy⟩:=hpw;rw[hw] at h1;obtain⟨us,hus,hus2⟩:=FX h1 hpy;have hul:us.length=sz:=by rw[hus2.length]; exact hc.1
      have hmi:i*sz+sz≤cur.size:=by
        have:=aqt sz (show i+1≤es.length by omega);rw[aqC] at this;have:=hall.1;omega
      obtain⟨cur',g1,g2,g3,g4⟩:=Fl (acN hall hc.2 hc.1 hus2) hrest e;refine⟨cur',?_,g2,by rw[g3,arq],by rw[g4,kY]⟩;simp only[apW,Instr.fill,hus];have hsz:us.toArray.size=sz:=by simpa using hul
      rw[if_neg (by simp[hsz]; omega)];have:=FY (i*sz) us 0 cur;grind
     ·cases e
    ·cases e
theorem Zj (h:Inv G N Sin w0 σ a w S m) {sz:Nat} {ps:List (Nat×Operand)} {qs:List (Nat×SX)} {es es':List D} {cur:Array Value}:dw m S w sz cur (.row sz es) →
    aD (fun p q=>p.1=q.1∧be p.2=some q.2) ps qs→elems (ev G σ.f) sz qs es=some es'→∃ cur',Instr.fill (fun i=>some (i*sz,sz)) cur (ps.map fun x=>(x.1,a.eval x.2))=some cur'∧dw m S w sz cur' (.row sz es')∧es'.length=es.length∧cur'.size=cur.size :=
  fun hall hpq e=>Fl hall (hpq.weak fun _ _ _ _ h1=>⟨h1.1,(h.operand h1.2).1⟩) e
theorem Nq {sz:Nat} {es:List D} {cur:Array Value} {ty:TypeId} {cap:Nat} (h:Inv G N Sin w0 σ a w S m) (hc:dw m S w sz cur (.row sz es)) (hcap:es.length≤cap) (hmax:cap≤maxLen) :
    Reads (fun b i=>S b i∨b=w.heap.size) (w.alloc (.cells cur ty)) (.slice (some ⟨w.heap.size,0,none⟩) es.length cap) (.sl es):=by
  have k:=bR.alloc h (.cells cur ty);refine Reads.of_row (sz:=sz) (fun i hi=>?_) hcap hmax;obtain⟨h1,h2⟩:=hc.2 i hi;refine⟨h1,fun j hj=>?_⟩;obtain⟨v,h3,h4⟩:=h2 j hj;refine⟨v,.inr rfl,?_,(h4.keep k).mono fun _ _ h=>.inl h⟩;simp_all
theorem Xh (t e:TypeId) {s b:Nat} {z:D} (ht:gZ P t=some (e,s,b,z)) (n:Nat) (hn:n*s≤2^24) (ps:Array (Nat×Operand)) (ho:o.op=.buildSlice t n ps) (own:Bool) {qs:List (Nat×SX)} (hq:aD (fun p q=>p.1=q.1∧be p.2=some q.2) ps.toList qs)
    (h:Inv G N Sin w0 σ a w S m) (hd:∀ t,o.dst=some t→t<N∧w0.fx t=none) {r:R} (hr:ef (ev G σ.f) σ.h σ.u (o.dst.getD 0) (.bldSl own n s z qs)=some r) (hK:K (σ.put o.dst r)):o.wp P a w (Nx G N Sin w0 K) Q:=by
  obtain⟨hu0,he⟩:=nU ht;obtain⟨i,zv,hi,hs,hb,hz,hpos,hlen,hrd⟩:=mr he;have hn2:n≤16777216:=by
    have:=Nat.le_mul_of_pos_right n hpos;have:(2:Nat)^24=16777216:=by decide
    omega
  simp only[ef] at hr;split at hr
  ·cases hr
  ·rename_i es hes;have h0:=Aq (m:=m) (S:=S) (w:=w) (e:=e) (b:=b) (zv:=zv) hrd hlen hpos n n (ap3 _) s;obtain⟨cur,g1,g2,g3,g4⟩:=Zj h h0 hq hes;rw[aqo] at g3;rw[size_madeCells] at g4;have hn3:¬ 16777216<n*s:=by grind
   have run:(execOp a.eval o).run P w=.ok (.value (.slice (some ⟨w.heap.size,0,none⟩) n n)) (w.alloc (.cells cur e)):=by
     simp only[execOp,ho];refine dM ?_;have hfill:Instr.fill (fun i=>some (i*s,s)) (madeCells zv.cells (n*s)) ((ps.map fun x=>(x.1,a.eval x.2)).toList)=some cur:=by
       rw[← g1]; congr 1; simp
     by_cases hns:n*s=0
     ·have hfill':Instr.fill (fun i=>some (i*s,s)) #[] (List.map (fun x=>(x.1,a.eval x.2)) ps.toList)=some cur:=by
        rw[← hfill,hns];simp[madeCells,Array.range_zero']
      simp[Instr.buildSlice,run_underlying hu0,sizeOf,typeInfo,hi,hs,hns,newRow,hfill',Array.range_zero']
     ·have hfill':Instr.fill (fun i=>some (i*s,s)) (Array.map (fun x=>zv.cells[x%zv.cells.size]!) (Array.range (n*s))) (List.map (fun x=>(x.1,a.eval x.2)) ps.toList)=some cur:=by
        rw[← hfill];simp[madeCells]
      simp[Instr.buildSlice,run_underlying hu0,sizeOf,typeInfo,hi,hs,hn3,hns,zeroValue,hz,newRow,hfill']
   split at hr
   ·obtain⟨hu,rfl⟩:=nk hr;exact vI (sz:=s) (ob:=.row s es) (c:=.own (8*o.dst.getD 0) s 0 n) h hd hu rfl (oW _) g2 (fun j hj=>by cases hj) run (BZ (ap3 _) (by simp only[maxLen]; omega) (by rw[g4]; exact ap3 _)) rfl hK
   ·rename_i hown;cases hr;by_cases hn0:n=0
    ·subst hn0;exact fM (h':=σ.h) (u':=σ.u) (h.newRo _) hd run (x:=.w (.c .nil)) ⟨_,rfl⟩ (fun i hi=>by cases hi) hK
    rw[if_neg hn0] at hK;have hr2:=Nq (ty:=e) (cap:=n) h g2 (by omega) (by simp only[maxLen]; omega);rw[g3] at hr2;exact fM (h':=σ.h) (u':=σ.u) (h.newRo _) hd run (x:=vd (.sl es)) (hr2.rw (m:=m)) (fun i hi=>by cases hi) hK
theorem Inv.rename (h:Inv G N Sin w0 σ a w S m) {id id':Nat} {ob:Ob} (ho:σ.h id=some ob) (hu:σ.u id'=false) (hbox:ob.ids=[]) :
    Inv G N Sin w0 ⟨σ.f,upd (upd σ.h id none) id' (some ob),upd σ.u id' true⟩ a w S (upd m id' (m id)):=by
  have hob:=h.obj id ob ho;have hne:id≠id':=fun e=>by rw[← e,hob.2.1] at hu; cases hu
  have hm:∀ i,σ.u i=true→upd m id' (m id) i=m i:=fun i hi=>by
    unfold upd; rw[if_neg (fun e=>by rw[e,hu] at hi; cases hi)]
  have huu:∀ i,σ.u i=true→upd σ.u id' true i=true:=fun i hi=>by unfold upd; split <;> simp_all
  have sub:∀ i o,i≠id'→upd (upd σ.h id none) id' (some ob) i=some o→i≠id∧σ.h i=some o:=fun i o hi g=>by
    simp only[upd,hi,if_false] at g;split at g
    ·cases g
    ·rename_i e; exact⟨e,g⟩
  refine h.move (bR.refl _ _) (eX.refl _) (fun _ _ h=>h) hm huu (fun i o' g=>?_) (fun i j b s s' h1 h2 h3 h4=>?_) h.sin h.below
  ·by_cases e:i=id'
   ·subst e;simp only[upd,if_true,ap2] at g;subst g;refine⟨?_,by simp[upd],fun j hj=>by rw[hbox] at hj; cases hj⟩;have h1:=hob.1;unfold bT at *
    simp only[upd,if_true];split at h1
    ·exact h1
    ·rename_i b s hmi;obtain⟨q1,q2,q3,cur,ty,fz,q4,q5,q6⟩:=h1;exact⟨q1,q2,q3,cur,ty,fz,q4.step (bR.refl _ _) (fun _ _ h=>h) (fun j hj=>by rw[hbox] at hj; cases hj) rfl,q5,q6.step (bR.refl _ _) (fun _ _ h=>h) fun j hj=>by rw[hbox] at hj; cases hj⟩
   ·obtain⟨_,g'⟩:=sub i o' e g;have h1:=h.obj i o' g';exact⟨h1.1.step (bR.refl _ _) (fun _ _ h=>h) (fun j hj=>hm j (h1.2.2 j hj)) (hm i h1.2.1) fun b s hb=>⟨rfl,h1.1.apart hb⟩,huu i h1.2.1,fun j hj=>huu j (h1.2.2 j hj)⟩
  ·have red:∀ i,upd (upd σ.h id none) id' (some ob) i≠none→upd m id' (m id) i=some (b,s)∨upd m id' (m id) i=some (b,s')→∃ k s2,σ.h k≠none∧m k=some (b,s2)∧(if i=id' then k=id else k=i∧i≠id):=by
     intro i g g2;by_cases e:i=id'
     ·subst e;refine⟨id,?_⟩;simp only[upd,if_true] at g2;grind
     ·obtain⟨o',ho'⟩:=aqe.1 g;obtain⟨g3,g4⟩:=sub i o' e ho';refine⟨i,?_⟩;simp only[upd,e,if_false] at g2;grind
   obtain⟨k1,s1,a1,a2,a3⟩:=red i h1 (.inl h3);obtain⟨k2,s2,b1,b2,b3⟩:=red j h2 (.inr h4);have hk:=h.inj k1 k2 b s1 s2 a1 b1 a2 b2;grind
theorem F0 {sz:Nat} {es:List D} (h:∀ e∈es,e.cells.length=sz) {off n:Nat} (hle:off+n≤es.length):((es.drop off).take n).flatMap D.cells=((es.flatMap D.cells).drop (off*sz)).take (n*sz):=by
  have e1:es.flatMap D.cells=(es.take off).flatMap D.cells++(es.drop off).flatMap D.cells:=by rw[← arn,aqq]
  have l1:((es.take off).flatMap D.cells).length=off*sz:=by
    grind [kw,ap0]
  have e2:(es.drop off).flatMap D.cells=((es.drop off).take n).flatMap D.cells++((es.drop off).drop n).flatMap D.cells:=by rw[← arn,aqq]
  have l2:(((es.drop off).take n).flatMap D.cells).length=n*sz:=by
    grind [kw,ap0]
  rw[e1,← l1,List.drop_left,e2,← l2,List.take_left]
theorem Nr:∀ {es:List D} {us:List Value},aD (Reads S w) us es→es.flatMap D.cells=es
  | _,_,.nil=>rfl
  | _,_,.cons h1 h2=>by rw[aqb,Nr h2,h1.cellsOf]; rfl
theorem Wq (h:Inv G N Sin w0 σ a w S m) {v:Value} {id sz off n:Nat} (hv:cO m w v id sz off n) {ob:Ob} (ho:σ.h id=some ob) {es:List D} (e:fZ ob off n=some es) :
    (v=.slice none 0 0∧es=[]∧n=0)∨∃ ad cap news,v=.slice (some ad) n cap∧es.length=n∧aD (Reads S w) news (es.flatMap D.cells)∧(∀ e∈es,e.cells.length=sz)∧∀ j u,news[j]?=some u→w.cell? (ad.add j)=some u:=by
  have hk:=(h.obj id ob ho).1;unfold cO at hv;unfold bT at hk;split at hv
  ·rename_i hm;rw[hm] at hk;obtain⟨s,rfl⟩:=hk;obtain⟨⟨ad,rfl⟩,rfl,rfl⟩:=hv;simp only[fZ] at e;split at e
   ·cases e;cases ad with
    | none=>exact .inl ⟨rfl,rfl,rfl⟩
    | some ad=>exact .inr ⟨ad,0,[],rfl,rfl,.nil,fun e he=>(by cases he),fun j u hj=>by simp at hj⟩
   ·cases e
  ·rename_i b sz' hm;rw[hm] at hk;obtain⟨rfl,ad,cap,ty,M,rfl,h2,h3,h4,h5,h6⟩:=hv;obtain⟨k1,k2,k3,cur,ty',fz,k4,k5,k6⟩:=hk;have addr:∀ j,0<cap→ad.add j=⟨b,off*sz'+j,none⟩:=fun j hc=>by rw[h4 (.inl hc),il]
   cases ob with
   | mp q es'=>cases e
   | it q l p=>cases e
   | row s es' =>
     simp only[Ob.sz] at k1;subst k1;simp only[fZ] at e;split at e
     ·rename_i hle;cases e;obtain⟨q1,q2⟩:=E3 k6;have hlen:((es'.drop off).take n).length=n:=by rw[ap0,ap5]; omega
      have hsz:∀ x∈(es'.drop off).take n,x.cells.length=s:=fun x hx=>q1 x (List.mem_of_mem_drop (List.mem_of_mem_take hx))
      have hall:=(q2.drop (off*s)).take (n*s);refine .inr ⟨ad,cap,((cur.toList.take (es'.length*s)).drop (off*s)).take (n*s),rfl,hlen,by rw[F0 q1 hle]; exact hall,hsz,fun j u hj=>?_⟩;have hjn:j<n*s:=by
        grind
      have hn:0<n:=by
        grind
      rw[addr j (by omega),cell_of_row w b _ cur ty' fz k4];grind
     ·cases e
   | box cs =>
     simp only[Ob.sz] at k1;subst k1;simp only[fZ] at e;split at e
     ·rename_i hle;have hall:=Bm e;have hb:=((Nj k6).drop off).take n;rw[hall] at hb;have hb':aD (Reads S w) (((cur.toList.take cs.length).drop off).take n) es:=by
        have hl:=hb.length;rw[ap1] at hl;refine .mk hl fun i g1 g2=>?_
        have:=hb.get i g1 (by rw[ap1]; exact g2);rw[aqn] at this;exact this
      have hlen:es.length=n:=by
        have:=congrArg List.length hall;grind
      refine .inr ⟨ad,cap,_,rfl,hlen,by rw[Nr hb']; exact hb',fun x hx=>?_,fun j u hj=>?_⟩
      ·obtain⟨i,hi,rfl⟩:=aqs hx;have:=(hb'.get i (by rw[hb'.length]; exact hi) hi).cellsOf;rw[this]; rfl
      ·have hjn:j<n:=by
         grind
       rw[addr j (by omega),cell_of_row w b _ cur ty' fz k4];grind
     ·cases e
theorem Mj (h:Inv G N Sin w0 σ a w S m) {v:Value} {x:V} (hv:RV m S w v x) {ys:List D} (e:js σ.h x=some (.sl ys)) {s:Nat} (hsz:eZ s ys=true) :
    (v=.slice none 0 0∧ys=[])∨∃ ad cap news,v=.slice (some ad) ys.length cap∧aD (Reads S w) news (ys.flatMap D.cells)∧∀ j u,news[j]?=some u→w.cell? (ad.add j)=some u:=by
  unfold js at e;split at e
  ·rename_i c
   ·cases c <;> simp only[jc,gm] at e <;> first | (cases e; done) | skip
    ·cases e;have hv':Reads S w v (.sl ys):=hv;rcases hv'.row with h1 | ⟨ad,cap,sz',h1,h2,h3,h4⟩
     ·exact .inl h1
     ·obtain⟨us,hall,hcell⟩:=(h4.size (qg hsz)).flat.list;exact .inr ⟨ad,cap,us,h1,hall,hcell⟩
    ·cases e;obtain⟨ad,rfl⟩:∃ ad,v=.slice ad 0 0:=hv
     cases ad with
     | none=>exact .inl ⟨rfl,rfl⟩
     | some ad=>exact .inr ⟨ad,0,[],rfl,.nil,fun j u hj=>by simp at hj⟩
    ·split at e
     ·rename_i ob ho;simp only[apV] at e;obtain⟨es,he,e2⟩:=e;cases e2;rcases Wq h hv ho he with ⟨h1,h2,_⟩ | ⟨ad,cap,news,h1,h2,h3,_,h4⟩
      ·exact .inl ⟨h1,h2⟩
      ·exact .inr ⟨ad,cap,news,by rw[h2]; exact h1,h3,h4⟩
     ·cases e
    ·grind [pF,apV]
    simp_all
  ·simp_all
  ·cases e
theorem src_ok (h:Inv G N Sin w0 σ a w S m) {u e:TypeId} {s:Nat} {str:Bool} (hu:(str=false∧P.underlying u=some (.slice e))∨(str=true∧P.underlying u=some .string∧s=1)) {v:Value} {x:V} (hv:RV m S w v x) {ys:List D} (e1:cg σ.h str x=some ys) (hsz:eZ s ys=true) :
    ∃ news,Src P s u v ys.length news w∧aD (Reads S w) news (ys.flatMap D.cells):=by
  unfold cg at e1;split at e1
  ·rename_i st;cases e1;obtain⟨hus,rfl⟩:P.underlying u=some .string∧s=1:=by
     rcases hu with hu | hu
     ·cases hu.1
     ·exact hu.2
   rw[tB hv];refine⟨byteCells st,?_,?_⟩
   ·have:=Src.ofString (P:=P) w hus st;simp_all
   ·have e2:∀ l:List UInt8,(l.map bD).flatMap D.cells=l.map bD:=by
      intro l
      induction l with
      | nil=>rfl
      | cons b r ih=>simp only[apW,aqb]; rw[ih]; rfl
    rw[e2];refine .mk (by simp[byteCells]) fun i g1 g2=>?_
    simp only[byteCells,aqn];exact .int _ _
  ·split at e1
   ·rename_i ys' hy;cases e1;have hkind:P.underlying u=some (.slice e):=by
      rcases hu with hu | hu
      ·exact hu.2
      ·cases hu.1
    rcases Mj h hv hy hsz with ⟨h1,rfl⟩ | ⟨ad,cap,news,h1,hall,hcell⟩
    ·rw[h1];exact⟨[],Src.ofNil w hkind 0,.nil⟩
    ·refine⟨news,?_,hall⟩;rw[h1];refine Src.ofSlice w hkind ad ys.length cap news ?_ hcell fun u hu'=>?_
     ·rw[hall.length,kw (qg hsz)]
     ·obtain⟨j,hj,rfl⟩:=aqs hu';exact (hall.get j hj (by rw[← hall.length]; exact hj)).oneCell
   ·cases e1
  ·cases e1
theorem Ls {s:Nat} {es ys:List D} (h1:∀ e∈es,e.cells.length=s) (h2:∀ e∈ys,e.cells.length=s):∀ e∈es++ys,e.cells.length=s:=by
  grind
theorem ahH {s:Nat} {es ys:List D} {cur:Array Value} (h:dw m S w s cur (.row s es)) (hys:∀ e∈ys,e.cells.length=s) {news:List Value} (hall:aD (Reads S w) news (ys.flatMap D.cells)) (hle:(es.length+ys.length)*s≤cur.size):dw m S w s (jm cur (es.length*s) news) (.row s (es++ys)):=by
  obtain⟨h1,h2⟩:=E3 h;have hl:=hall.length;rw[kw hys] at hl;rw[aqC] at hle;refine Ln (Ls h1 hys) (by rw[kY,apS,aqC]; exact hle) ?_;rw[arn,apS,aqC];have e1:(jm cur (es.length*s) news).toList.take (es.length*s+ys.length*s)=cur.toList.take (es.length*s)++news:=by
    have hcl:cur.toList.length=cur.size:=arC;have htl:(cur.toList.take (es.length*s)).length=es.length*s:=by rw[ap0,hcl]; omega
    apply aq2;intro i;rw[aq5];by_cases h3:i<es.length*s
    ·rw[if_pos (by omega),aqM (by omega),aq5,if_pos h3,aq1,aq1,oU _ _ _ _ (.inl h3)]
    ·rw[aql (by omega),htl];by_cases h4:i<es.length*s+ys.length*s
     ·rw[if_pos h4,aq1];have:=qm news cur (es.length*s) (i-es.length*s) (by omega) (by omega);grind
     ·rw[if_neg h4,aqI (by omega)]
  rw[e1];exact h2.append hall
theorem ahI {s:Nat} {es:List D} (hes:∀ e∈es,e.cells.length=s) {news:List Value} (hall:aD (Reads S w) news (es.flatMap D.cells)) (rest:Array Value):dw m S w s (news.toArray++rest) (.row s es):=by
  have hl:=hall.length;grind [kw,Ln]
theorem Ll (ad:Option Addr) (s:Nat) (w:World):(Builtin.firstCells s 0 (.slice ad 0 0)).run P w=.ok ([]:List Value).toArray w:=by
  cases ad with
  | none=>exact run_firstCells_none _ _ _ _ _
  | some ad=>grind [run_firstCells_some]
theorem Ns (t e u:TypeId) {s b:Nat} {z:D} (ht:gZ P t=some (e,s,b,z)) {str:Bool} (hu:(str=false∧P.underlying u=some (.slice e))∨(str=true∧P.underlying u=some .string∧s=1)) (x y:Operand) (x' y':SX) (c:Call) (ho:o.op=.call c) (hc:c.callee=.builtin .append) (hts:c.argTypes.toList=[t,u]) (hargs:c.args.toList=[x,y]) (hx:be x=some x') (hy:be y=some y')
    (h:Inv G N Sin w0 σ a w S m) (hd:∀ t,o.dst=some t→t<N∧w0.fx t=none) {ys:List D} (hys:cg σ.h str (ev G σ.f y')=some ys) (hsz:eZ s ys=true) :
    ∀ (base:Option Addr) (n cap:Nat) (es:List D) (olds:List Value),a.eval x=.slice base n cap→(∀ e∈es,e.cells.length=s)→es.length=n→aD (Reads S w) olds (es.flatMap D.cells)→(Builtin.firstCells s n (.slice base n cap)).run P w.drew=.ok olds.toArray w.drew →
          cap<n+ys.length→(n+ys.length)*b≤140737488355328→n+ys.length≤140737488355328→∀ (h0:aI),(∃ id,h0=upd σ.h id none)∨h0=σ.h→σ.u (8*o.dst.getD 0)=false →
          K (σ.put o.dst (.w (.c (.own (8*o.dst.getD 0) s 0 (es++ys).length)),upd h0 (8*o.dst.getD 0) (some (.row s (es++ys))),upd σ.u (8*o.dst.getD 0) true))→o.wp P a w (Nx G N Sin w0 K) Q:=by
  obtain⟨hu0,he⟩:=nU ht;obtain⟨i,zv,hi,hs,hb,hz,hpos,hlen,hrd⟩:=mr he;have e1:c.argTypes=#[t,u]:=by apply Array.ext'; simpa using hts
  have e2:c.args=#[x,y]:=by apply Array.ext'; simpa using hargs
  have h1:=h.operand hx;have h2:=h.operand hy;have hexec:∀ v w',(Builtin.append_ #[t,u] o.type #[a.eval x,a.eval y]).run P w=.ok v w'→(execOp a.eval o).run P w=.ok (.value v) w':=fun v w' hv=>by
    simp only[execOp,ho,resolve,hc,invoke,builtin,e1,e2];simp[hv]
  obtain⟨news,hsrc,hall⟩:=src_ok h hu h2.1 hys hsz;have hysz:=qg hsz;have hnl:=hall.length;rw[kw hysz] at hnl;intro base n cap es olds hval hes hesn holds hfc hlt hby h47 h0 hh0 huu hK';have run:=run_append_grow_src (P:=P) w t u o.type e i zv hu0 hi hz base n cap olds (by rw[hs]; exact hfc) (a.eval y) ys.length news (by rw[hs]; exact hsrc) hlt (by omega) (by rw[hb]; exact growslice_fits hlt hby);have hI0:Inv G N Sin w0 ⟨σ.f,h0,σ.u⟩ a w.drew S m:=by
    rcases hh0 with ⟨id,rfl⟩ | rfl
    ·exact (h.kill id).drew
    ·exact h.drew
  have hge:=grownCap_ge w (n+ys.length) cap e;have hcm:=grownCap_le_maxLen w (n+ys.length) cap e (by simp only[maxLen]; omega);have hcell:dw m S w.drew s ((olds++news).toArray++Builtin.zeroCells zv.cells (grownCap w (n+ys.length) cap e-(n+ys.length))) (.row s (es++ys)) :=
    ahI (w:=w.drew) (Ls hes hysz) (by rw[arn]; exact ((holds.append hall).weak fun _ _ _ _ h=>h.keep ⟨fun _ _ _ _ h=>h,fun _ _ h=>h,fun _ _ _ _ _ h=>h⟩)) _
  have hzs:zv.cells.size=s:=by have:=(hrd S w).length; rw[hlen] at this; simpa using this
  have hol:=holds.length;rw[kw hes,hesn] at hol;have hsize:((olds++news).toArray++Builtin.zeroCells zv.cells (grownCap w (n+ys.length) cap e-(n+ys.length))).size=grownCap w (n+ys.length) cap e*s:=by
    rw[Array.size_append,List.size_toArray,apS,size_zeroCells,hzs,hol,hnl,← aqC,← aqC]
    congr 1; omega
  refine Pg (σ:=⟨σ.f,h0,σ.u⟩) (sz:=s) (ob:=.row s (es++ys)) (c:=.own (8*o.dst.getD 0) s 0 (es++ys).length) hI0 hd huu rfl (oW _) hcell (fun j hj=>by cases hj) (hexec _ _ (by rw[hval]; exact run)) ?_ rfl hK';have hel:(es++ys).length=n+ys.length:=by rw[apS,hesn]
  rw[hel];exact BZ (w:=w.drew) hge hcm (by rw[hsize]; exact ap3 _)
theorem Nt (t e u:TypeId) {s b:Nat} {z:D} (ht:gZ P t=some (e,s,b,z)) {str:Bool} (hu:(str=false∧P.underlying u=some (.slice e))∨(str=true∧P.underlying u=some .string∧s=1)) (x y:Operand) (x' y':SX) (c:Call) (ho:o.op=.call c) (hc:c.callee=.builtin .append) (hts:c.argTypes.toList=[t,u]) (hargs:c.args.toList=[x,y]) (hx:be x=some x') (hy:be y=some y')
    (h:Inv G N Sin w0 σ a w S m) (hd:∀ t,o.dst=some t→t<N∧w0.fx t=none) {ys:List D} (hys:cg σ.h str (ev G σ.f y')=some ys) (hsz:eZ s ys=true) (hK:zb σ o.dst s b ys K (ev G σ.f x')):o.wp P a w (Nx G N Sin w0 K) Q:=by
  have grow:=Ns (K:=K) (Q:=Q) t e u ht hu x y x' y' c ho hc hts hargs hx hy h hd hys hsz;obtain⟨hu0,he⟩:=nU ht;obtain⟨i,zv,hi,hs,hb,hz,hpos,hlen,hrd⟩:=mr he;have e1:c.argTypes=#[t,u]:=by apply Array.ext'; simpa using hts
  have e2:c.args=#[x,y]:=by apply Array.ext'; simpa using hargs
  have h1:=h.operand hx;have h2:=h.operand hy;have hexec:∀ v w',(Builtin.append_ #[t,u] o.type #[a.eval x,a.eval y]).run P w=.ok v w'→(execOp a.eval o).run P w=.ok (.value v) w':=fun v w' hv=>by
    simp only[execOp,ho,resolve,hc,invoke,builtin,e1,e2];simp[hv]
  obtain⟨news,hsrc,hall⟩:=src_ok h hu h2.1 hys hsz;have hysz:=qg hsz;have hnl:=hall.length;rw[kw hysz] at hnl;unfold zb at hK;split at hK
  ·rename_i id sz0 off n ex;split at hK
   ·rename_i sz' es hob;obtain⟨⟨hn,hsz',hby,h47,huu⟩,hK⟩:=hK;have hsz2:=hsz'.symm;subst hsz2;rw[ex] at h1;have hobj:=h.obj id _ hob;have hv':cO m w (a.eval x) id sz0 off n:=h1.1;have hk:=hobj.1;unfold cO at hv';unfold bT at hk;split at hv'
    ·rename_i hm;rw[hm] at hk;obtain⟨s2,hrow⟩:=hk;cases hrow;obtain⟨⟨ad0,hval⟩,rfl,rfl⟩:=hv';have hK:=hK [] (.inr rfl);simp only[aqZ,List.drop_nil,ap7,aqz,aqO] at hK;rcases arh ys.length with h0 | h0
     ·have hy0:ys=[]:=aqJ h0;subst hy0;have hn0:news=[]:=aqJ (by rw[hnl]; simp);subst hn0;have run:(Builtin.append_ #[t,u] o.type #[a.eval x,a.eval y]).run P w=.ok (.slice ad0 0 0) w:=by
        rw[hval];have hl0:=hsrc.len w;have hc0:=hsrc.cells;simp only[aqZ] at hl0 hc0;rcases hsrc.kind with ⟨e',hk⟩ | hk <;> cases ad0 <;> simp[Builtin.append_,run_underlying hu0,run_underlying hk,sizeOf,typeInfo,hi,hs,hl0,hc0,storeCells]
      refine fM ((h.kill id).newNil (sz:=s) huu) hd (hexec _ _ run) (x:=.w (.c (.own (8*o.dst.getD 0) s 0 0))) ?_ (fun i hi=>?_) hK
      ·show cO _ _ _ _ _ _ _
       unfold cO;simp only[upd,if_true];exact⟨⟨_,rfl⟩,trivial,trivial⟩
      ·have:i∈[8*o.dst.getD 0]:=hi;simp only[apY] at this;simp[upd,this]
     ·exact grow ad0 0 0 [] [] hval (fun e he=>by cases he) rfl .nil (Ll _ _ _) (by omega) (by simpa using hby) (by simpa using h47) _ (.inl ⟨id,rfl⟩) huu (by simpa using hK)
    ·rename_i bb sz2 hm;rw[hm] at hk;obtain⟨rfl,ad,cap,ty,M,hval,g2,g3,g4,g5,g6⟩:=hv';obtain⟨k1,k2,k3,cur,ty',fz,k4,k5,k6⟩:=hk;simp only[Ob.sz] at k1;subst k1;have hM:M=cur.size:=by
       unfold World.shape? at g5;rw[k4] at g5;grind
     subst hM;obtain⟨hes,hflat⟩:=E3 k6;by_cases hroom:n+ys.length≤cap
     ·
      have hK:=hK (es.take off) (.inl rfl);rw[aqq,ap0,aq0 (by omega)] at hK;have hfit:(es.length+ys.length)*s≤cur.size:=aqG (aqt _ (by omega)) g6;have hfit':=hfit;rw[aqC] at hfit';have hon:off*s+n*s=es.length*s:=by rw[← aqC,hn]
      have run:(Builtin.append_ #[t,u] o.type #[a.eval x,a.eval y]).run P w=.ok (.slice (some ad) (n+ys.length) cap) (w.setCells bb (es.length*s) news):=by
        rw[hval];rcases arh cap with hc0 | hc0
        ·subst hc0;have hy0:ys=[]:=aqJ (by omega);have he0:n=0:=by omega
         subst hy0;have hn0:news=[]:=aqJ (by rw[hnl]; simp);subst hn0;rw[he0];have hl0:=hsrc.len w;have hc0:=hsrc.cells;simp only[aqZ] at hl0 hc0;rcases hsrc.kind with ⟨e',hk⟩ | hk <;> simp[Builtin.append_,run_underlying hu0,run_underlying hk,sizeOf,typeInfo,hi,hs,hl0,hc0,storeCells,World.setCells]
        ·have:=run_append_room_src (P:=P) w t u o.type e i hu0 hi bb (off*s) n cap (a.eval y) ys.length news (by rw[hs]; exact hsrc) hroom (fun j hj=>by
           rw[hs,cell_of_row w bb _ cur ty' fz k4];grind) (fun j hj=>Fj k4 k5 (by rw[hs]; omega))
         grind
      have hI:=h.write (w':=w.setCells bb (es.length*s) news) (o':=.row s (es++ys)) hob hm rfl k4 (uK news _ w cur k4) (kY _ _ _) (fun k hk=>xG news _ w k hk) (ahH k6 hysz hall hfit) (fun j hj=>by cases hj) (xH k2 news _ w h.below) (setCells_size news _ w);have hI2:=hI.rename (id:=id) (id':=8*o.dst.getD 0) (ob:=.row s (es++ys)) (by simp[upd]) huu rfl;have hcol:upd (upd σ.h id (some (.row s (es++ys)))) id none=upd σ.h id none:=by
        funext k; simp only[upd]; split <;> rfl
      rw[hcol,hm] at hI2;refine fM hI2 hd (hexec _ _ run) (x:=.w (.c (.own (8*o.dst.getD 0) s off (n+ys.length)))) ?_ (fun i hi=>?_) hK
      ·show cO _ _ _ _ _ _ _
       unfold cO;simp only[upd,if_true];refine⟨trivial,ad,cap,ty',cur.size,rfl,by omega,g3,g4,?_,g6⟩;unfold World.shape?;rw[uK news _ w cur k4];simp only[kY]
      ·have:i∈[8*o.dst.getD 0]:=hi;simp only[apY] at this;simp[upd,this]
     ·
      have hK:=hK [] (.inr rfl);simp only[aqZ,aqz] at hK;have hdl:(es.drop off).length=n:=by rw[ap5]; omega
      have hds:∀ e∈es.drop off,e.cells.length=s:=fun e he=>hes e (List.mem_of_mem_drop he)
      have hcl:cur.toList.length=cur.size:=arC;have hle:=k6.1;have hon:off*s+n*s=es.length*s:=by rw[← aqC,hn]
      have hfd:(es.drop off).flatMap D.cells=(es.flatMap D.cells).drop (off*s):=by
        have:=F0 hes (off:=off) (n:=n) (by omega);rw[apX (by omega)] at this;rw[this,apX (by rw[ap5,kw hes]; omega)]
      refine grow (some ad) n cap (es.drop off) ((cur.toList.take (es.length*s)).drop (off*s)) hval hds hdl (by rw[hfd]; exact hflat.drop _) ?_ (by omega) hby h47 _ (.inl ⟨id,rfl⟩) huu (by rw[apS,hdl]; exact hK);refine run_firstCells_some w.drew s n ad n cap _ (by rw[ap5,ap0,hcl]; omega) fun j v hj=>?_
      have hjl:j<n*s:=by
        grind
      have hpos2:0<cap:=by
        grind
      rw[g4 (.inl hpos2),il]
      show w.cell? _=_
      rw[cell_of_row w bb _ cur ty' fz k4];grind
   ·exact hK.elim
  ·exact hK.elim
theorem Pk (t e u:TypeId) {s b:Nat} {z:D} (ht:gZ P t=some (e,s,b,z)) {str:Bool} (hu:(str=false∧P.underlying u=some (.slice e))∨(str=true∧P.underlying u=some .string∧s=1)) (x y:Operand) (x' y':SX) (c:Call) (ho:o.op=.call c) (hc:c.callee=.builtin .append) (hts:c.argTypes.toList=[t,u]) (hargs:c.args.toList=[x,y]) (hx:be x=some x') (hy:be y=some y')
    (h:Inv G N Sin w0 σ a w S m) (hd:∀ t,o.dst=some t→t<N∧w0.fx t=none) {r:R} (hr:ef (ev G σ.f) σ.h σ.u (o.dst.getD 0) (.app str s b x' y')=some r) (hK:K (σ.put o.dst r)):o.wp P a w (Nx G N Sin w0 K) Q:=by
  have grow:=fun ys=>Ns (K:=K) (Q:=Q) (ys:=ys) t e u ht hu x y x' y' c ho hc hts hargs hx hy h hd
  have gen:=fun ys=>Nt (K:=K) (Q:=Q) (ys:=ys) t e u ht hu x y x' y' c ho hc hts hargs hx hy h hd
  obtain⟨hu0,he⟩:=nU ht;obtain⟨i,zv,hi,hs,hb,hz,hpos,hlen,hrd⟩:=mr he;have e1:c.argTypes=#[t,u]:=by apply Array.ext'; simpa using hts
  have e2:c.args=#[x,y]:=by apply Array.ext'; simpa using hargs
  have h1:=h.operand hx;have h2:=h.operand hy;have hexec:∀ v w',(Builtin.append_ #[t,u] o.type #[a.eval x,a.eval y]).run P w=.ok v w'→(execOp a.eval o).run P w=.ok (.value v) w':=fun v w' hv=>by
    simp only[execOp,ho,resolve,hc,invoke,builtin,e1,e2];simp[hv]
  simp only[ef] at hr;split at hr
  ·cases hr
  ·rename_i ys hys;split at hr
   ·rename_i hsz;have grow:=grow ys hys hsz;obtain⟨news,hsrc,hall⟩:=src_ok h hu h2.1 hys hsz;have hysz:=qg hsz;have hnl:=hall.length;rw[kw hysz] at hnl;split at hr
    ·rename_i ex;split at hr
     ·rename_i hcond;obtain⟨huu,rfl⟩:=nk hr;rw[ex] at h1;obtain⟨ad0,hval⟩:∃ ad,a.eval x=.slice ad 0 0:=h1.1
      rcases arh ys.length with h0 | h0
      ·have hy0:ys=[]:=aqJ h0;subst hy0;have hn0:news=[]:=aqJ (by rw[hnl]; simp);subst hn0;have run:(Builtin.append_ #[t,u] o.type #[a.eval x,a.eval y]).run P w=.ok (.slice ad0 0 0) w:=by
         rw[hval];have hl0:=hsrc.len w;have hc0:=hsrc.cells;simp only[aqZ] at hl0 hc0;rcases hsrc.kind with ⟨e',hk⟩ | hk <;> cases ad0 <;> simp[Builtin.append_,run_underlying hu0,run_underlying hk,sizeOf,typeInfo,hi,hs,hl0,hc0,storeCells]
       refine fM (h.newNil (sz:=s) huu) hd (hexec _ _ run) (x:=.w (.c (.own (8*o.dst.getD 0) s 0 0))) ?_ (fun i hi=>?_) hK
       ·show cO _ _ _ _ _ _ _
        unfold cO;simp only[upd,if_true];exact⟨⟨_,rfl⟩,trivial,trivial⟩
       ·have:i∈[8*o.dst.getD 0]:=hi;simp only[apY] at this;simp[upd,this]
      ·exact grow ad0 0 0 [] [] hval (fun e he=>by cases he) rfl .nil (Ll _ _ _) (by omega) (by simpa using hcond.1) (by simpa using hcond.2) σ.h (.inr rfl) huu hK
     ·cases hr
    ·rename_i id sz' off n ex;split at hr
     ·rename_i szr es hob;split at hr
      ·rename_i hcond;obtain⟨rfl,rfl,rfl,hby,h47⟩:=hcond;obtain⟨huu,rfl⟩:=nk hr;refine gen ys hys hsz ?_;rw[ex];unfold zb;grind
      ·cases hr
     ·cases hr
    ·cases hr
   ·cases hr
theorem Pl {ρ:SX→V} {h:aI} {u:Nat→Bool} {dst:Nat} {str:Bool} {s b:Nat} {x y:SX} {r:R} (e:ef ρ h u dst (.appN str s b x y)=some r):ef ρ h u dst (.app str s b x y)=some r:=by
  simp only[ef] at e ⊢;grind
end
section
variable {P:Program} {G:au} {N:Nat} {Sin:aT} {w0:Gh} {σ:St} {a:Act} {w:World} {S:aT} {m:Mp} {o:Oper} {K:St→Prop} {Q:Exit→Act→World→Prop}
theorem Zk (h:aI) (id:Nat) {ob:Ob} (e:h id=some ob):upd h id (some ob)=h:=by
  funext k
  unfold upd;split
  ·rename_i hk; rw[hk,e]
  ·rfl
theorem acO {s s':Nat} {es ys:List D} {cur:Array Value} (h:dw m S w s cur (.row s' es)) (hys:∀ e∈ys,e.cells.length=s) {off:Nat} (hle:off+ys.length≤es.length) {news:List Value} (hall:aD (Reads S w) news (ys.flatMap D.cells)):dw m S w s (jm cur (off*s) news) (.row s' (eO es off ys)):=by
  obtain⟨h1,h2⟩:=h;have hl:=hall.length;rw[kw hys] at hl;have hfit:off*s+ys.length*s≤cur.size:=by
    rw[← aqC];exact aqG (aqt _ hle) h1
  have hlen:=xJ es off ys hle;refine⟨by rw[hlen,kY]; exact h1,fun i hi=>?_⟩;have hg:=x5 es off ys hle i;rw[apR hi] at hg;rw[hlen] at hi;by_cases hin:off≤i∧i<off+ys.length
  ·rw[if_pos hin,apR (by omega),ap2] at hg;rw[hg];have hc:=hys ys[i-off] (aqr (by omega));refine⟨hc,fun j hj=>?_⟩;have hf:=flat_get hys (i-off) (by omega) j (by omega);rw[apR hj] at hf;obtain⟨v,h3,h4⟩:=hall.get? hf;obtain⟨h5,h6⟩:=aqd.1 h3;refine⟨v,?_,h4⟩;have:=qm news cur (off*s) ((i-off)*s+j) (by omega) h5;rw[h6] at this;have e:off*s+((i-off)*s+j)=i*s+j:=by
     have:off*s+(i-off)*s=i*s:=by rw[← aqC]; congr 1; omega
     omega
   rw[← e];exact this
  ·rw[if_neg hin,apR (by omega),ap2] at hg;rw[hg];obtain⟨h3,h4⟩:=h2 i hi;refine⟨h3,fun j hj=>?_⟩;obtain⟨v,h5,h6⟩:=h4 j hj;refine⟨v,?_,h6⟩;rw[oU news cur (off*s) _ ?_]
   ·exact h5
   ·rcases aqk i off with hlt | hge
    ·have:=aqt s (show i+1≤off by omega);rw[aqC] at this;omega
    ·have:=aqt s (show off+ys.length≤i by omega);rw[aqC] at this;omega
theorem Lo {b off:Nat} {us:List Value} {ad:Addr} (had:0<us.length→ad=⟨b,off,none⟩) (h1:∀ u∈us,u.oneCell'=true) {cur:Array Value} {ty:TypeId} {fz:Nat×Nat} (hc:w.heap[b]?=some (.cells cur ty fz)) (hf:iX cur fz) (hle:off+us.length≤cur.size) :
    (storeCells ad us).run P w=.ok () (w.setCells b off us):=by
  cases us with
  | nil=>rfl
  | cons u r =>
    rw[had (by simp)];have:=run_storeCells_cells (P:=P) b off (u::r) 0 w (fun j hj=>by
      rw[cell_of_row w b _ cur ty fz hc];have:off+0+j<cur.size:=by omega
      simp only[Array.getElem?_eq_getElem this,arF]) (fun j hj=>Fj hc hf (by omega)) h1
    simpa using this
theorem Zl (t e u:TypeId) {s b:Nat} {z:D} (ht:gZ P t=some (e,s,b,z)) (hu:P.underlying u=some (.slice e)) (x y:Operand) (x' y':SX) (c:Call) (ho:o.op=.call c) (hc:c.callee=.builtin .copy) (hts:c.argTypes.toList=[t,u]) (hargs:c.args.toList=[x,y]) (hx:be x=some x') (hy:be y=some y')
    (h:Inv G N Sin w0 σ a w S m) (hd:∀ t,o.dst=some t→t<N∧w0.fx t=none) {r:R} (hr:ef (ev G σ.f) σ.h σ.u (o.dst.getD 0) (.copy s x' y')=some r) (hK:K (σ.put o.dst r)):o.wp P a w (Nx G N Sin w0 K) Q:=by
  obtain⟨hu0,he⟩:=nU ht;obtain⟨i,zv,hi,hs,hb,hz,hpos,hlen,hrd⟩:=mr he;have e1:c.argTypes=#[t,u]:=by apply Array.ext'; simpa using hts
  have e2:c.args=#[x,y]:=by apply Array.ext'; simpa using hargs
  have h1:=h.operand hx;have h2:=h.operand hy;have hexec:∀ v w',(Builtin.copy_ #[t,u] o.type #[a.eval x,a.eval y]).run P w=.ok v w'→(execOp a.eval o).run P w=.ok (.value v) w':=fun v w' hv=>by
    simp only[execOp,ho,resolve,hc,invoke,builtin,e1,e2];simp[hv]
  simp only[ef] at hr;split at hr
  ·rename_i ys hys;split at hr
   ·rename_i hsz;have hysz:=qg hsz;have hsrc:=Mj h h2.1 hys hsz;have first:∀ k,k≤ys.length→∃ news,(Builtin.lenOf (a.eval y)).run P w=.ok ys.length w∧(Builtin.firstCells s k (a.eval y)).run P w=.ok news.toArray w∧aD (Reads S w) news ((ys.take k).flatMap D.cells):=by
      intro k hk;rcases hsrc with ⟨g1,rfl⟩ | ⟨ad,cap,news,g1,g2,g3⟩
      ·rw[g1];have:k=0:=by simpa using hk
       subst this;exact⟨[],rfl,run_firstCells_none _ _ _ _ _,.nil⟩
      ·rw[g1];have hnl:=g2.length;rw[kw hysz] at hnl;have hkl:k*s≤ys.length*s:=aqt _ hk;refine⟨news.take (k*s),rfl,run_firstCells_some w s k ad _ cap _ (by rw[ap0]; omega) (fun j v hj=>?_),?_⟩
       ·rw[aq5] at hj;split at hj
        ·exact g3 j v hj
        ·cases hj
       ·have:=F0 hysz (off:=0) (n:=k) (by omega);simp only[arm,ar4] at this;rw[this];exact g2.take _
    have one:∀ {news:List Value} {l:List D},aD (Reads S w) news l→∀ u∈news,u.oneCell'=true:=fun hall u hu'=>by
      obtain⟨j,hj,rfl⟩:=aqs hu';exact (hall.get j hj (by rw[← hall.length]; exact hj)).oneCell
    split at hr
    ·rename_i ex;cases hr;rw[ex] at h1;obtain⟨ad0,hval⟩:∃ ad,a.eval x=.slice ad 0 0:=h1.1
     obtain⟨news,f1,f2,f3⟩:=first 0 (apZ _)
     have hn0:news=[]:=by simpa using f3.length
     subst hn0;refine i7 h hd (hexec _ _ ?_) (.int .i64 0) hK;rw[hval];cases ad0 <;> simp[storeCells,Builtin.copy_,run_underlying hu0,sizeOf,typeInfo,hi,hs,f1,f2,goInt]
    ·rename_i id sz' off n ex;rw[ex] at h1;have hv':cO m w (a.eval x) id sz' off n:=h1.1;obtain⟨news,f1,f2,f3⟩:=first (Nat.min ys.length n) (Nat.min_le_left _ _)
     have htk:ys.take n=ys.take (Nat.min ys.length n):=by
       rcases Nat.le_total n ys.length with g | g
       ·rw[show Nat.min ys.length n=n from Nat.min_eq_right g]
       ·rw[show Nat.min ys.length n=ys.length from aq0 g,apX g,aqy]
     have htl:(ys.take (Nat.min ys.length n)).length=Nat.min ys.length n:=by
       rw[ap0]; exact aq0 (Nat.min_le_left _ _)
     have htsz:∀ e∈ys.take (Nat.min ys.length n),e.cells.length=s:=fun e he=>hysz e (List.mem_of_mem_take he)
     have hnl:=f3.length;rw[kw htsz,htl] at hnl;have hkn:Nat.min ys.length n≤n:=Nat.min_le_right _ _;split at hr
     ·rename_i szr es hob;split at hr
      ·rename_i hcond;obtain⟨rfl,hfit⟩:=hcond;cases hr;rw[htk] at hK;have hobj:=h.obj id _ hob;have hk:=hobj.1;unfold bT at hk;unfold cO at hv';split at hv'
       ·rename_i hm;rw[hm] at hk;obtain⟨s2,hrow⟩:=hk;cases hrow;obtain⟨⟨ad0,hval⟩,rfl,rfl⟩:=hv';have hk0:Nat.min ys.length 0=0:=Nat.min_eq_right (apZ _);rw[hk0] at hK f2;have heq:upd σ.h id (some (Ob.row szr (eO [] 0 (ys.take 0))))=σ.h:=Zk _ _ (by rw[hob]; simp[eO]);rw[heq] at hK;refine i7 h hd (hexec _ _ ?_) (.int .i64 ((0:Nat):Int)) hK;rw[hval];have hk1:Nat.min ys.length 0=0:=hk0;have hn0:news=[]:=by
          have:=f3.length;rw[hk1] at this
          simpa using this
        subst hn0;cases ad0 <;> simp[storeCells,Builtin.copy_,run_underlying hu0,sizeOf,typeInfo,hi,hs,f1,f2,goInt]
       ·rename_i bb sz2 hm;rw[hm] at hk;obtain⟨rfl,ad,cap,ty,M,hval,g2,g3,g4,g5,g6⟩:=hv';obtain⟨k1,k2,k3,cur,ty',fz,k4,k5,k6⟩:=hk;simp only[Ob.sz] at k1;subst k1;have hle:=k6.1;have hfit2:off*szr+news.length≤cur.size:=by
          rw[hnl,← aqC];exact aqG (aqt _ (by omega)) hle
        have run:(Builtin.copy_ #[t,u] o.type #[a.eval x,a.eval y]).run P w=.ok (.int .i64 (Nat.min ys.length n:Nat)) (w.setCells bb (off*szr) news):=by
          rw[hval];have hst:=Lo (P:=P) (ad:=ad) (off:=off*szr) (fun hp=>g4 (by
            rcases arh cap with h0 | h0
            ·have:n=0:=by omega
             rw[hnl] at hp;have h3:Nat.min ys.length n=0:=by omega
             rw[h3] at hp;simp at hp
            ·exact .inl h0)) (one f3) k4 k5 hfit2
          simp[Builtin.copy_,run_underlying hu0,sizeOf,typeInfo,hi,hs,f1,f2,goInt,hst]
        have hI:=h.write (w':=w.setCells bb (off*szr) news) (o':=.row szr (eO es off (ys.take (Nat.min ys.length n)))) hob hm rfl k4 (uK news _ w cur k4) (kY _ _ _) (fun k hk=>xG news _ w k hk) (acO k6 htsz (by rw[htl]; omega) f3) (fun j hj=>by cases hj) (xH k2 news _ w h.below) (setCells_size news _ w);exact fM hI hd (hexec _ _ run) (x:=vd (.int .i64 (Nat.min ys.length n:Nat))) (Reads.rw (m:=m) (.int _ _)) (fun i hi=>by cases hi) hK
      ·cases hr
     ·rename_i cs hob;split at hr
      ·rename_i hcond;obtain⟨hs1,hfit⟩:=hcond;cases hr;rw[htk] at hK;have hobj:=h.obj id _ hob;have hk:=hobj.1;unfold bT at hk;unfold cO at hv';split at hv'
       ·rename_i hm;rw[hm] at hk;obtain⟨s2,hrow⟩:=hk;cases hrow
       ·rename_i bb sz2 hm;rw[hm] at hk;obtain⟨rfl,ad,cap,ty,M,hval,g2,g3,g4,g5,g6⟩:=hv';obtain⟨k1,k2,k3,cur,ty',fz,k4,k5,k6⟩:=hk;simp only[Ob.sz] at k1;subst k1;have hle:=k6.1;have hnl1:news.length=Nat.min ys.length n:=by rw[hnl,hs1,arD]
        have hfit2:off+news.length≤cur.size:=by omega
        have run:(Builtin.copy_ #[t,u] o.type #[a.eval x,a.eval y]).run P w=.ok (.int .i64 (Nat.min ys.length n:Nat)) (w.setCells bb off news):=by
          rw[hval];have hst:=Lo (P:=P) (ad:=ad) (off:=off) (fun hp=>by
            have:=g4 (by
              rcases arh cap with h0 | h0
              ·have:n=0:=by omega
               omega
              ·exact .inl h0)
            simpa using this) (one f3) k4 k5 hfit2
          simp[Builtin.copy_,run_underlying hu0,sizeOf,typeInfo,hi,hs,f1,f2,goInt,hst]
        have hfl:((ys.take (Nat.min ys.length n)).flatMap D.cells).length=news.length:=f3.length.symm;have hdl:(((ys.take (Nat.min ys.length n)).flatMap D.cells).map C.d).length=news.length:=by rw[ap1,hfl]
        have hlenR:=xJ cs off (((ys.take (Nat.min ys.length n)).flatMap D.cells).map C.d) (by omega);have hcells:dw m S w 1 (jm cur off news) (.box (eO cs off (((ys.take (Nat.min ys.length n)).flatMap D.cells).map C.d))):=by
          refine⟨by rw[hlenR,kY]; exact hle,fun j hj=>?_⟩;have hg:=x5 cs off (((ys.take (Nat.min ys.length n)).flatMap D.cells).map C.d) (by omega) j;rw[apR hj] at hg;rw[hlenR] at hj;by_cases hin:off≤j∧j<off+news.length
          ·rw[if_pos (by omega),aqH] at hg;have hlt:j-off<((ys.take (Nat.min ys.length n)).flatMap D.cells).length:=by omega
           rw[apR hlt,aq4,ap2] at hg;have h5:j-off<news.length:=by omega
           refine⟨news[j-off],?_,?_⟩
           ·have:=qm news cur off (j-off) (by omega) h5;rw[show off+(j-off)=j by omega] at this;exact this
           ·rw[hg];exact f3.get (j-off) h5 hlt
          ·rw[if_neg (by omega),apR (by omega),ap2] at hg;obtain⟨v,q1,q2⟩:=k6.2 j hj;refine⟨v,?_,by rw[hg]; exact q2⟩;rw[oU news cur off j (by omega)];exact q1
        have hI:=h.write (w':=w.setCells bb off news) (o':=.box (eO cs off (((ys.take (Nat.min ys.length n)).flatMap D.cells).map C.d))) hob hm rfl k4 (uK news _ w cur k4) (kY _ _ _) (fun k hk=>xG news _ w k hk) hcells
          (Np hobj.2.2 fun j hj=>by
            obtain⟨c,hc1,hc2⟩:=aqc.1 hj;obtain⟨d,_,rfl⟩:=aqa.1 hc1;cases hc2) (xH k2 news _ w h.below) (setCells_size news _ w)
        exact fM hI hd (hexec _ _ run) (x:=vd (.int .i64 (Nat.min ys.length n:Nat))) (Reads.rw (m:=m) (.int _ _)) (fun i hi=>by cases hi) hK
      ·cases hr
     ·cases hr
    ·cases hr
   ·cases hr
  ·cases hr
theorem Inv.killAll (h:Inv G N Sin w0 σ a w S m):∀ cs:List C,∃ S',Inv G N Sin w0 ⟨σ.f,Go.Proofs.YtnjhelpgohdajaaGreatDoor.killAll σ.h cs,σ.u⟩ a w S' m∧(∀ b i,S b i→S' b i)∧∀ id∈cs.flatMap C.ids,∀ o b s i,(∃ sz off n,C.own id sz off n∈cs)→σ.h id=some o→m id=some (b,s)→S' b i
  | []=>⟨S,h,fun _ _ h=>h,fun id hid=>by cases hid⟩
  | c::r=>by
    obtain⟨S1,h1,h2,h3⟩:=Inv.killAll h r;cases c with
    | own id sz off n =>
      by_cases hl:(Go.Proofs.YtnjhelpgohdajaaGreatDoor.killAll σ.h r) id=none
      ·refine⟨S1,?_,h2,fun id' _ ob b s i ⟨sz',off',n',hmem⟩ ho hm=>?_⟩
       ·have:=h1.kill id;exact this
       ·rcases aqh.1 hmem with e | e
        ·cases e;exact Classical.byContradiction fun hn=>by
           have key:∀ l:List C,(Go.Proofs.YtnjhelpgohdajaaGreatDoor.killAll σ.h l) id=none→(∃ sz off n,C.own id sz off n∈l):=by
             intro l
             induction l with
             | nil=>intro hh; simp only[Go.Proofs.YtnjhelpgohdajaaGreatDoor.killAll] at hh; rw[ho] at hh; cases hh
             | cons c l ih =>
               intro hh;cases c <;> simp only[Go.Proofs.YtnjhelpgohdajaaGreatDoor.killAll] at hh
               case own id2 sz2 off2 n2 =>
                   (by_cases e:id=id2
                    ·subst e; exact⟨sz2,off2,n2,aqj ..⟩
                    ·simp only[upd,e,if_false] at hh;obtain⟨x,y,z,hz⟩:=ih hh;exact⟨x,y,z,aqf _ hz⟩)
               all_goals (obtain⟨x,y,z,hz⟩:=ih hh; exact⟨x,y,z,aqf _ hz⟩)
           obtain⟨x,y,z,hz⟩:=key r hl;exact hn (h3 id (aqc.2 ⟨_,hz,by simp[C.ids]⟩) ob b s i ⟨x,y,z,hz⟩ ho hm)
        ·exact h3 id' (aqc.2 ⟨_,e,by simp[C.ids]⟩) ob b s i ⟨sz',off',n',e⟩ ho hm
      ·obtain⟨o1,ho1⟩:=aqe.1 hl;refine⟨_,h1.freeze id o1 ho1,fun b i hs=>.inl (h2 b i hs),fun id' _ ob b s i ⟨sz',off',n',hmem⟩ ho hm=>?_⟩;rcases aqh.1 hmem with e | e
       ·cases e; exact .inr ⟨s,hm⟩
       ·exact .inl (h3 id' (aqc.2 ⟨_,e,by simp[C.ids]⟩) ob b s i ⟨sz',off',n',e⟩ ho hm)
    | _ =>
      refine⟨S1,h1,h2,fun id' _ ob b s i ⟨sz',off',n',hmem⟩ ho hm=>?_⟩;rcases aqh.1 hmem with e | e
      ·cases e
      ·exact h3 id' (aqc.2 ⟨_,e,by simp[C.ids]⟩) ob b s i ⟨sz',off',n',e⟩ ho hm
theorem yk {h:aI} {c:C} {d:D} (e:gm h c=some d):∀ id∈c.ids,∃ sz off n,c=.own id sz off n:=by
  cases c <;> simp only[gm] at e <;> first | (cases e; done) | skip
  ·intro id hid; cases hid
  ·intro id hid; cases hid
  ·intro id hid;simp only[C.ids,apY] at hid;subst hid;exact⟨_,_,_,rfl⟩
theorem AO {h:aI}:∀ {cs:List C} {ds:List D},ma h cs=some ds→∀ c∈cs,∀ id∈c.ids,∃ sz off n,c=.own id sz off n
  | [],_,_=>fun c hc=>by cases hc
  | c::r,ds,e=>by
    simp only[ma] at e;split at e
    ·rename_i x l h1 h2;intro c' hc;rcases aqh.1 hc with rfl | hc
     ·exact yk h1
     ·exact AO h2 c' hc
    ·cases e
theorem acP (x:Operand) (y:SX) (ho:o.op=.move x∨o.op=.assign x) (hx:be x=some y) (h:Inv G N Sin w0 σ a w S m) (hd:∀ t,o.dst=some t→t<N∧w0.fx t=none) {r:R} (hr:ef (ev G σ.f) σ.h σ.u (o.dst.getD 0) (.frz y)=some r) (hK:K (σ.put o.dst r)):o.wp P a w (Nx G N Sin w0 K) Q:=by
  have h1:=h.operand hx;simp only[ef] at hr;split at hr
  ·rename_i yw ey;simp only[apV] at hr;obtain⟨d,hd',rfl⟩:=hr;rw[ey] at h1;obtain⟨S',hI,hS,hown⟩:=h.killAll (dX yw);have hall:∀ id∈yw.ids,∀ ob b s i,σ.h id=some ob→m id=some (b,s)→S' b i:=by
     intro id hid ob b s i ho' hm;have hw:(dX yw).flatMap C.ids=yw.ids:=by
       obtain⟨_,_,_,h4⟩:=Ap h1.1;exact h4
     have hid':=hid;rw[← hw] at hid';refine hown id hid' ob b s i ?_ ho' hm;unfold toW at hd';split at hd'
     ·rename_i c;obtain⟨sz,off,n,rfl⟩:=yk hd' id hid;exact⟨sz,off,n,by simp[dX]⟩
     ·rename_i cs;simp only[apV] at hd';obtain⟨ds,he,_⟩:=hd';obtain⟨c,hc1,hc2⟩:=aqc.1 hid;obtain⟨sz,off,n,rfl⟩:=AO he c hc1 id hc2;exact⟨sz,off,n,hc1⟩
   have hrd:=yG h hS hall h1.1 hd';refine fM hI hd (v:=a.eval x) ?_ (x:=vd d) ?_ (fun i hi=>by cases hi) hK
   ·unfold execOp;rcases ho with ho | ho <;> rw[ho] <;> rfl
   ·show RW m S' w _ (.c (.d d))
    cases d with
    | agg cs=>exact hrd
    | _=>exact hrd
  ·cases hr
theorem G1 (h:Inv G N Sin w0 σ a w S m) {S':aT} (hS:∀ b i,S b i→S' b i) {v:Value} {x:V} (hown:∀ id,(∃ sz off n,C.own id sz off n∈qu x)→∀ ob b s i,σ.h id=some ob→m id=some (b,s)→S' b i) (hv:RV m S w v x):RV m S' w v (kK σ.h x):=by
  have keep:RV m S' w v x:=RV.mono hS hv;have key:∀ y d,x=.w y→qu x=dX y→toW σ.h y=some d→RV m S' w v (.w (.c (.d d))):=by
    rintro y d rfl hcell hd';have hall:∀ id∈y.ids,∀ ob b s i,σ.h id=some ob→m id=some (b,s)→S' b i:=by
      intro id hid;refine hown id ?_;rw[hcell];unfold toW at hd';split at hd'
      ·rename_i c;obtain⟨sz,off,n,rfl⟩:=yk hd' id hid;exact⟨sz,off,n,by simp[dX]⟩
      ·rename_i cs;simp only[apV] at hd';obtain⟨ds,he,_⟩:=hd';obtain⟨c,hc1,hc2⟩:=aqc.1 hid;obtain⟨sz,off,n,rfl⟩:=AO he c hc1 id hc2;exact⟨sz,off,n,hc1⟩
    have hrd:=yG h hS hall (show RW m S w v y from hv) hd'
    show RW m S' w _ (.c (.d d))
    cases d with
    | agg cs=>exact hrd
    | _=>exact hrd
  unfold kK;split
  ·rename_i id sz off n;split
   ·rename_i o ho;split
    ·rename_i es he;exact key _ (.sl es) rfl rfl (by simp[toW,gm,ho,he])
    ·trivial
   ·trivial
  ·obtain⟨ad,rfl⟩:∃ ad,v=.slice ad 0 0:=hv
   exact Reads.zero ad
  ·rename_i cs;split
   ·rename_i ds hds;exact key _ (.agg ds) rfl rfl (by simp[toW,hds])
   ·trivial
  ·exact keep
theorem Zm (h:aI) (x:V):∀ i∈(kK h x).ids,i∈x.ids:=by
  intro i hi;unfold kK at hi;split at hi
  ·split at hi
   ·split at hi <;> cases hi
   ·cases hi
  ·cases hi
  ·split at hi <;> cases hi
  ·exact hi
theorem Wr (t:TypeId) (ps:Array (Nat×Operand)) (ho:o.op=.build t ps) (place:Nat→Option (Nat×Nat)) (zv:Value) (hb:∀ l cells,Instr.fill place zv.cells l=some cells→P.built t l=some cells) {cs:List C} (hcs:bE nZ zv.cells.toList=some cs)
    {qs:List (Nat×Nat×SX)} (hq:aD (fun p q=>place p.1=some (q.1,q.2.1)∧be p.2=some q.2.2) ps.toList qs) (h:Inv G N Sin w0 σ a w S m) (hd:∀ t,o.dst=some t→t<N∧w0.fx t=none)
    {cs':List C} (hp:parts (fun x=>kK σ.h (ev G σ.f x)) qs cs=some cs') (hK:K (σ.put o.dst (.w (jC cs'),killAll σ.h (qs.flatMap fun p=>qu (ev G σ.f p.2.2)),σ.u))):o.wp P a w (Nx G N Sin w0 K) Q:=by
  obtain⟨S',hI,hS,hown⟩:=h.killAll (qs.flatMap fun p=>qu (ev G σ.f p.2.2));have hz:=EJ (m:=m) (S:=S') (w:=w) hcs;have hq2:aD (fun p q=>place p.1=some (q.1,q.2.1)∧RV m S' w (a.eval p.2) (kK σ.h (ev G σ.f q.2.2))∧∀ i∈(kK σ.h (ev G σ.f q.2.2)).ids,σ.u i=true) ps.toList qs:=hq.weak fun p q _ hqm hpq =>
    ⟨hpq.1,G1 h hS (fun id ⟨sz,off,n,hc⟩ ob b s i ho' hm=>hown id (aqc.2 ⟨_,aqc.2 ⟨q,hqm,hc⟩,by simp[C.ids]⟩) ob b s i ⟨sz,off,n,aqc.2 ⟨q,hqm,hc⟩⟩ ho' hm) (h.operand hpq.2).1,
      fun i hi=>(h.operand hpq.2).2 i (Zm _ _ i hi)⟩
  obtain⟨cur',h1,h2,h3⟩:=FZ place hz.1 (fun i hi=>by rw[hz.2] at hi; cases hi) hq2 hp;have hmk:=xZ h2;rw[arj] at hmk;refine fM hI hd (x:=.w (jC cs')) ?_ hmk.1 (fun i hi=>h3 i (hmk.2 i hi)) hK;simp only[execOp,ho];refine dM (run_build w t _ cur' (hb _ _ ?_));rw[← h1]
  congr 1
  simp
theorem Xi (t e:TypeId) (ht:P.underlying t=some (.slice e)) (he:P.underlying e=some (.int .u8)) (x:Operand) (x':SX) (ho:o.op=.convert t t x) (hx:be x=some x') (h:Inv G N Sin w0 σ a w S m) (hd:∀ t,o.dst=some t→t<N∧w0.fx t=none) {r:R} (hr:ef (ev G σ.f) σ.h σ.u (o.dst.getD 0) (.markF x')=some r) (hK:K (σ.put o.dst r)):o.wp P a w (Nx G N Sin w0 K) Q:=by
  simp only[ef] at hr;split at hr
  ·rename_i id sz off n e1;split at hr
   ·rename_i sz' es ho1;split at hr
    ·rename_i hsz;cases hr;obtain⟨v,w1,run,hinv,hv,_⟩:=Ph t e ht he x x' ho hx h e1 ho1 hsz.2.1;obtain⟨S',hI,hS,hown⟩:=hinv.killAll [.own id sz off n];have hf:=G1 hinv hS (x:=.w (.c (.own id sz off n))) (fun id' ⟨sz2,off2,n2,hc⟩ ob b s i ho' hm=>by
       refine hown id' ?_ ob b s i ⟨sz2,off2,n2,hc⟩ ho' hm;exact aqc.2 ⟨_,hc,by simp[C.ids]⟩) hv
     have hfe:kK σ.h (.w (.c (.own id sz off n)))=vd (.sl ((es.drop off).take n)):=by
       simp only[kK,ho1,fZ,if_pos hsz.2.2,vd]
     rw[hfe] at hf;exact fM hI hd run (x:=vd (.sl ((es.drop off).take n))) hf (fun i hi=>by cases hi) hK
    ·cases hr
   ·cases hr
  ·cases hr
theorem Xj (t e:TypeId) {s b:Nat} {z:D} (ht:gZ P t=some (e,s,b,z)) (n:Nat) (hn:n*s≤2^24) (hn1:0<n) (ps:Array (Nat×Operand)) (ho:o.op=.buildSlice t n ps) {qs:List (Nat×SX)}
    (hq:aD (fun p q=>p.1=q.1∧be p.2=some q.2) ps.toList qs)
    (h:Inv G N Sin w0 σ a w S m) (hd:∀ t,o.dst=some t→t<N∧w0.fx t=none) {r:R} (hr:ef (ev G σ.f) σ.h σ.u (o.dst.getD 0) (.bldFz n s z qs)=some r) (hK:K (σ.put o.dst r)):o.wp P a w (Nx G N Sin w0 K) Q:=by
  obtain⟨hu0,he⟩:=nU ht;obtain⟨i,zv,hi,hs,hb,hz,hpos,hlen,hrd⟩:=mr he;have hn2:n≤16777216:=by
    have:=Nat.le_mul_of_pos_right n hpos;have:(2:Nat)^24=16777216:=by decide
    omega
  simp only[ef,apV] at hr;obtain⟨es,hes,rfl⟩:=hr;obtain⟨S',hI,hS,hown⟩:=h.killAll (qs.flatMap fun p=>qu (ev G σ.f p.2));have h0:=Aq (m:=m) (S:=S') (w:=w) (e:=e) (b:=b) (zv:=zv) hrd hlen hpos n n (ap3 _) s;have hq2:aD (fun p q=>p.1=q.1∧RV m S' w (a.eval p.2) (kK σ.h (ev G σ.f q.2))) ps.toList qs:=hq.weak fun p q _ hqm hpq =>
    ⟨hpq.1,G1 h hS (fun id ⟨sz,off,n,hc⟩ ob b s i ho' hm=>hown id (aqc.2 ⟨_,aqc.2 ⟨q,hqm,hc⟩,by simp[C.ids]⟩) ob b s i ⟨sz,off,n,aqc.2 ⟨q,hqm,hc⟩⟩ ho' hm) (h.operand hpq.2).1⟩
  obtain⟨cur,g1,g2,g3,g4⟩:=Fl h0 hq2 hes;rw[aqo] at g3;rw[size_madeCells] at g4
  have hn3:¬ 16777216<n*s:=by have:(2:Nat)^24=16777216:=by decide
                              omega
  have run:(execOp a.eval o).run P w=.ok (.value (.slice (some ⟨w.heap.size,0,none⟩) n n)) (w.alloc (.cells cur e)):=by
    simp only[execOp,ho];refine dM ?_;have hfill:Instr.fill (fun i=>some (i*s,s)) (madeCells zv.cells (n*s)) ((ps.map fun x=>(x.1,a.eval x.2)).toList)=some cur:=by
      rw[← g1]; congr 1; simp
    have hns:¬ n*s=0:=by
      have:=Nat.mul_pos hn1 hpos;omega
    have hfill':Instr.fill (fun i=>some (i*s,s)) (Array.map (fun x=>zv.cells[x%zv.cells.size]!) (Array.range (n*s))) (List.map (fun x=>(x.1,a.eval x.2)) ps.toList)=some cur:=by
      rw[← hfill];simp[madeCells]
    simp[Instr.buildSlice,run_underlying hu0,sizeOf,typeInfo,hi,hs,hn3,hns,zeroValue,hz,newRow,hfill']
  have hr2:=Nq (ty:=e) (cap:=n) hI g2 (by omega) (by simp only[maxLen]; omega);rw[g3] at hr2;exact fM (hI.newRo _) hd run (x:=vd (.sl es)) (hr2.rw (m:=m)) (fun i hi=>by cases hi) hK
theorem Pm (h:Inv G N Sin w0 σ a w S m):∀ {xs:List Operand} {ys:List SX} {k:IntKind} {l:List Int},bE be xs=some ys→ints (ev G σ.f) ys=some (k,l)→xs.map a.eval=l.map (Value.int k)∧l≠[]
  | [],ys,k,l,h1,h2=>by simp only[bE,ap2] at h1; subst h1; simp[ints] at h2
  | x::xs,ys,k,l,h1,h2=>by
    simp only[bE] at h1;split at h1
    ·rename_i y ys' hx hxs;cases h1;cases ys' with
     | nil =>
       simp only[ints,apV] at h2;obtain⟨⟨k',n⟩,h3,h4⟩:=h2;cases h4;have:=oa (h.operand hx).1 h3;have hxs0:xs=[]:=by
         cases xs with
         | nil=>rfl
         | cons x2 r=>simp only[bE] at hxs; split at hxs <;> cases hxs
       subst hxs0;exact⟨by simp[this],by simp⟩
     | cons y2 r =>
       simp only[ints] at h2;split at h2
       ·rename_i k1 n1 k2 l2 h3 h4;split at h2
        ·rename_i hk;cases h2;subst hk;have h5:=oa (h.operand hx).1 h3;obtain⟨h6,_⟩:=Pm h hxs h4;exact⟨by simp[h5,h6],by simp⟩
        ·cases h2
       ·cases h2
    ·cases h1
theorem LC (k:IntKind):∀ (l:List Int) (x:Int),((l.map (Value.int k)).foldlM Builtin.min2 (.int k x)).run P w=.ok (.int k (l.foldl (fun x y=>if y<x then y else x) x)) w
  | [],x=>rfl
  | y::r,x=>by
    simp only[apW,List.foldlM_cons,aq6,Sem.run_bind,Builtin.min2,Sem.run_pure,Result.andThen_ok];exact LC k r _
theorem LD (k:IntKind):∀ (l:List Int) (x:Int),((l.map (Value.int k)).foldlM Builtin.max2 (.int k x)).run P w=.ok (.int k (l.foldl (fun x y=>if y>x then y else x) x)) w
  | [],x=>rfl
  | y::r,x=>by
    simp only[apW,List.foldlM_cons,aq6,Sem.run_bind,Builtin.max2,Sem.run_pure,Result.andThen_ok];exact LD k r _
theorem LK (mx:Bool) (c:Call) (ho:o.op=.call c) (hc:c.callee=.builtin (if mx then .max else .min)) {ys:List SX} (hys:bE be c.args.toList=some ys) (h:Inv G N Sin w0 σ a w S m) (hd:∀ t,o.dst=some t→t<N∧w0.fx t=none)
    {r:R} (hr:ef (ev G σ.f) σ.h σ.u (o.dst.getD 0) (if mx then .max ys else .min ys)=some r) (hK:K (σ.put o.dst r)):o.wp P a w (Nx G N Sin w0 K) Q:=by
  have key:∀ k l,ints (ev G σ.f) ys=some (k,l)→∃ x0 l0,l=x0::l0∧(c.args.map a.eval)=((x0::l0).map (Value.int k)).toArray:=by
    intro k l hl;obtain⟨h1,h2⟩:=Pm h hys hl;cases l with
    | nil=>exact absurd rfl h2
    | cons x0 l0 =>
      refine⟨x0,l0,rfl,?_⟩;apply Array.ext'
      simpa using h1
  cases mx
  ·simp only[Bool.false_eq_true,if_false,ef,apV] at hr hc;obtain⟨⟨k,l⟩,hl,rfl⟩:=hr;obtain⟨x0,l0,rfl,hargs⟩:=key k l hl;refine i7 h hd ?_ (.int k _) hK;simp only[execOp,ho,resolve,hc,invoke,builtin,hargs];simp[Builtin.min_,LC]
  ·simp only[if_true,ef,apV] at hr hc;obtain⟨⟨k,l⟩,hl,rfl⟩:=hr;obtain⟨x0,l0,rfl,hargs⟩:=key k l hl;refine i7 h hd ?_ (.int k _) hK;simp only[execOp,ho,resolve,hc,invoke,builtin,hargs];simp[Builtin.max_,LD]
end
section
variable {P:Program} {G:au} {N:Nat} {Sin:aT} {w0:Gh} {σ:St} {a:Act} {w:World} {S:aT} {m:Mp} {o:Oper} {K:St→Prop} {Q:Exit→Act→World→Prop}
theorem Pn (h:Inv G N Sin w0 σ a w S m):∀ {xs:List Operand} {ys:List SX} {ds:List D},bE be xs=some ys→fK σ.h (ys.map (ev G σ.f))=some ds→aD (fun v x=>RW (fun _=>none) (qN σ.h m S) w v (.c (.d x))) (xs.map a.eval) ds
  | [],ys,ds,h1,h2=>by
    simp only[bE,ap2] at h1;subst h1;simp only[ap4,fK,ap2] at h2;subst h2;exact .nil
  | x::xs,ys,ds,h1,h2=>by
    simp only[bE] at h1;split at h1
    ·rename_i y ys' hx hxs;cases h1;simp only[apW,fK] at h2;split at h2
     ·rename_i d l h3 h4;cases h2;exact .cons (Rx h (h.operand hx).1 h3) (Pn h hxs h4)
     ·cases h2
    ·cases h1
theorem F1 (h:Inv G N Sin w0 σ a w S m):∀ {xs:List Operand} {ys:List SX} {ds:List D},bE be xs=some ys→fK σ.h (ys.map (ev G σ.f))=some ds→(ys.map (ev G σ.f)).any V.hasOwn=false→aD (fun v x=>RW (fun _=>none) S w v (.c (.d x))) (xs.map a.eval) ds
  | [],ys,ds,h1,h2,_=>by
    simp only[bE,ap2] at h1;subst h1;simp only[ap4,fK,ap2] at h2;subst h2;exact .nil
  | x::xs,ys,ds,h1,h2,h5=>by
    simp only[bE] at h1;split at h1
    ·rename_i y ys' hx hxs;cases h1;simp only[apW,fK] at h2;simp only[apW,List.any_cons,Bool.or_eq_false_iff] at h5;split at h2
     ·rename_i d l h3 h4;cases h2;refine .cons ?_ (F1 h hxs h4 h5.2);have hv:=(h.operand hx).1;have h51:=h5.1;generalize ev G σ.f y=yv at hv h3 h51;refine Pj h (fun _ _ h=>h) (fun id hid ob b s i ho hm=>?_) hv h3;exfalso;unfold js at h3;split at h3
      ·rename_i c;simp only[V.hasOwn] at h51;change id∈c.ids at hid;cases c <;> first | (cases hid; done) | (cases h51; done) | (cases h3; done) | skip
       rename_i g pre post;simp only[jc] at h3;split at h3
       ·rename_i hp;obtain rfl:pre=[]:=by simpa using hp
        simp only[C.ids,ar5,aqz] at hid;obtain⟨c,hc1,hc2⟩:=aqc.1 hid;simp only[C.isOwn,aqU] at h51;have:=h51 c hc1;cases c with
        | d x=>cases hc2
        | p=>exact this rfl
       ·cases h3
      ·rename_i cs;simp only[apV] at h3;obtain⟨ds',he,_⟩:=h3;obtain⟨c,hc1,hc2⟩:=aqc.1 (show id∈cs.flatMap C.ids from hid);obtain⟨sz,off,n,rfl⟩:=AO he c hc1 id hc2;simp only[V.hasOwn,aqU] at h51;exact h51 _ hc1 rfl
      ·cases h3
     ·cases h2
    ·cases h1
theorem RW.mono0 {S T:aT} {v:Value} {x:D} (h:RW (fun _=>none) S w v (.c (.d x))) (hT:∀ b i,S b i→T b i):RW (fun _=>none) T w v (.c (.d x)):=by
  by_cases hc:∃ cs,x=.agg cs
  ·obtain⟨cs,rfl⟩:=hc;obtain⟨us,h1,h2⟩:=h;exact⟨us,h1,h2.weak fun _ _ _ _ h=>h.mono hT⟩
  ·have h':Reads S w v x:=by
     unfold RW at h;split at h
     ·rename_i e1; cases e1; exact absurd ⟨_,rfl⟩ hc
     ·rename_i e1; cases e1; exact h
     ·rename_i e1; cases e1
   exact (h'.mono hT).rw
theorem Nu (h:Inv G N Sin w0 σ a w S m):∀ {xs:List Operand} {ys:List SX} {ds:List D},bE be xs=some ys→fK σ.h (ys.map (ev G σ.f))=some ds→v7 (ys.map (ev G σ.f)) ds=true→aD (fun v x=>RW (fun _=>none) (sH σ.h m S w) w v (.c (.d x))) (xs.map a.eval) ds
  | [],ys,ds,h1,h2,_=>by
    simp only[bE,ap2] at h1;subst h1;simp only[ap4,fK,ap2] at h2;subst h2;exact .nil
  | x::xs,ys,ds,h1,h2,h5=>by
    simp only[bE] at h1;split at h1
    ·rename_i y ys' hx hxs;cases h1;simp only[apW,fK] at h2;split at h2
     ·rename_i d l h3 h4;cases h2;simp only[apW,v7,aqm,Bool.or_eq_true,Bool.not_eq_true'] at h5;refine .cons ?_ (Nu h hxs h4 h5.2);rcases h5.1 with h6 | h6
      ·have h7:=F1 h (xs:=[x]) (ys:=[y]) (ds:=[d]) (by simp[bE,hx]) (by simp[fK,h3]) (by simp[h6]);cases h7 with
       | cons h8 _=>exact h8.mono0 fun _ _ h=>.inl h
      ·exact acK h (h.operand hx).1 h3 h6.1 h6.2
     ·cases h2
    ·cases h1
theorem Reads.flat {T T':aT} {v:Value} {x:D} (hx:x.flat=true) (h:Reads T w v x):Reads T' w v x:=by
  cases h with
  | int=>exact .int _ _
  | bool=>exact .bool _
  | str=>exact .str _
  | nil=>exact .nil
  | sl=>simp[D.flat] at hx
  | ref=>simp[D.flat] at hx
  | fn=>simp[D.flat] at hx
  | mpN=>simp[D.flat] at hx
  | mp=>simp[D.flat] at hx
theorem acQ {T T':aT} {us:List Value} {cs:List D} (hx:(D.agg cs).flat=true) (h:aD (Reads T w) us cs):aD (Reads T' w) us cs:=by
  refine h.weak fun u c _ hc hr=>?_
  simp only[D.flat,ap9] at hx;have:=hx c hc;cases hr with
  | int=>exact .int _ _
  | bool=>exact .bool _
  | str=>exact .str _
  | nil=>exact .nil
  | sl=>simp at this
  | ref=>simp at this
  | fn=>simp at this
  | mpN=>simp at this
  | mp=>simp at this
theorem V4 {S' T:aT} {w':World} {B b sz cap:Nat} {es:List D} (h:FU S' w' B b sz es) (hT:∀ b i,S' b i→T b i) (hb:∀ i,T b i) (hcap:es.length≤cap) (hmax:cap≤maxLen):Reads T w' (.slice (some ⟨b,0,none⟩) es.length cap) (.sl es):=by
  obtain⟨_,_,cur,ty,fz,h1,_,h2,h3⟩:=h;refine Reads.of_row (sz:=sz) (fun i hi=>?_) hcap hmax;obtain⟨h4,h5⟩:=h3 i hi;refine⟨h4,fun j hj=>?_⟩;obtain⟨v,h6,h7⟩:=h5 j hj;refine⟨v,hb _,?_,h7.mono hT⟩;rw[cell_of_row w' b _ cur ty fz h1,aqO];exact h6
theorem G2 {S' T:aT} {w':World} {B:Nat} {v:Value} {c:C} {bl:List Nat} (h:jY S' w' B v c bl) (hT:∀ b i,S' b i→T b i) (hb:∀ b∈bl,∀ i,T b i):RC m T w' v c.ro∧c.ro.ids=[]:=by
  cases c <;> simp only[jY] at h <;> first | exact h.elim | skip
  ·exact⟨h.1.mono hT,rfl⟩
  ·rename_i sz es;refine⟨?_,rfl⟩;rcases h with ⟨⟨ad,rfl⟩,rfl,_⟩ | ⟨b,cap,ty,N',rfl,rfl,h1,h2,_,_,h3⟩
   ·exact Reads.zero ad
   ·exact V4 h3 hT (hb b (by simp)) h1 h2
theorem Zn {S' T:aT} {w':World} {B:Nat} {us:List Value} {cs:List C} {bl:List Nat} (h:li S' w' B us cs bl) (hT:∀ b i,S' b i→T b i) (hb:∀ b∈bl,∀ i,T b i):aD (RC m T w') us (cs.map C.ro)∧(cs.map C.ro).flatMap C.ids=[]:=by
  induction h with
  | nil=>exact⟨.nil,rfl⟩
  | cons h1 _ ih =>
    have h2:=G2 (m:=m) h1 hT fun b hb'=>hb b (aqL _ hb')
    have h3:=ih fun b hb'=>hb b (aqi _ hb')
    exact⟨.cons h2.1 h3.1,by rw[apW,aqb,h2.2,h3.2]; rfl⟩
theorem wb {S' T:aT} {w':World} {B:Nat} {v:Value} {x:W} {bl:List Nat} (h:i5 S' w' B v x bl) (hT:∀ b i,S' b i→T b i) (hb:∀ b∈bl,∀ i,T b i):RW m T w' v x.ro∧x.ro.ids=[]:=by
  unfold i5 at h;split at h
  ·rename_i cs;obtain⟨⟨us,h1,h2⟩,_⟩:=h;exact⟨⟨us,h1,h2.weak fun _ _ _ _ h=>h.mono hT⟩,rfl⟩
  ·rename_i c hc;have:=G2 (m:=m) h hT hb;exact⟨RC.rw this.1,this.2⟩
  ·rename_i cs;obtain⟨us,rfl,h2⟩:=h;have h3:=Zn (m:=m) h2 hT hb;have h4:=xZ h3.1;refine⟨h4.1,?_⟩;cases hids:(jC (cs.map C.ro)).ids with
   | nil=>exact hids
   | cons i r =>
     have:=h4.2 i (by rw[hids]; simp);rw[h3.2] at this;cases this
theorem Xk {S':aT} {w':World} {B:Nat} {us:List Value} {ws:List W} {bl:List Nat} (h:lZ S' w' B us ws bl) (hn:bl.Nodup):∀ (k:Nat) (y:W),ws[k]?=some y→∃ u bk,us[k]?=some u∧i5 S' w' B u y bk∧(∀ b∈bk,b∈bl)∧∀ (j:Nat),j≠k→∀ (z:W),ws[j]?=some z→∃ u' bj,us[j]?=some u'∧i5 S' w' B u' z bj∧(∀ b∈bj,b∈bl∧b∉bk):=by
  induction h with
  | nil=>intro k y hy; simp at hy
  | cons h1 h2 ih =>
    rename_i v c b1 vs cs b2;have hn2:=ara.1 hn;intro k y hy;cases k with
    | zero =>
      grind
    | succ k =>
      simp only[aqR] at hy;obtain⟨u,bk,g1,g2,g3,g4⟩:=ih hn2.2.1 k y hy;refine⟨u,bk,by simpa using g1,g2,fun b hb=>aqi _ (g3 b hb),fun j hj z hz=>?_⟩;grind
theorem Xl {S':aT} {w':World} {B:Nat} {us:List Value} {ws:List W} {bl:List Nat} (h:lZ S' w' B us ws bl):us.length=ws.length:=by
  induction h with
  | nil=>rfl
  | cons _ _ ih=>simp[ih]
theorem Xm {S':aT} {w':World} {B:Nat} {us:List Value} {ws:List C} {bl:List Nat} (h:li S' w' B us ws bl) (hn:bl.Nodup):∀ (k:Nat) (y:C),ws[k]?=some y→∃ u bk,us[k]?=some u∧jY S' w' B u y bk∧(∀ b∈bk,b∈bl)∧∀ (j:Nat),j≠k→∀ (z:C),ws[j]?=some z→∃ u' bj,us[j]?=some u'∧jY S' w' B u' z bj∧(∀ b∈bj,b∈bl∧b∉bk):=by
  induction h with
  | nil=>intro k y hy; simp at hy
  | cons h1 h2 ih =>
    rename_i v c b1 vs cs b2;have hn2:=ara.1 hn;intro k y hy;cases k with
    | zero =>
      grind
    | succ k =>
      simp only[aqR] at hy;obtain⟨u,bk,g1,g2,g3,g4⟩:=ih hn2.2.1 k y hy;refine⟨u,bk,by simpa using g1,g2,fun b hb=>aqi _ (g3 b hb),fun j hj z hz=>?_⟩;grind
theorem Xn {S':aT} {w':World} {B:Nat} {us:List Value} {ws:List C} {bl:List Nat} (h:li S' w' B us ws bl):us.length=ws.length:=by
  induction h with
  | nil=>rfl
  | cons _ _ ih=>simp[ih]
theorem Inv.callee (h:Inv G N Sin w0 σ a w S m) {w':World} (hb:Below w.heap.size w w') (T:aT) (hT:∀ b i,T b i→w.heap.size≤b∧b<w'.heap.size):Inv G N Sin w0 σ a w' (fun b i=>S b i∨T b i) m:=by
  have hg:=h.grow (w':=w') (fun b hlt=>hb.block b hlt) (h.below.step (ap3 _) hb) hb.size;refine hg.move (bR.refl _ _) (eX.refl _) (fun _ _ h=>.inl h) (fun _ _=>rfl) (fun _ h=>h) (fun id ob ho=>?_) hg.inj (fun b i hs=>?_) hg.below
  ·have h1:=hg.obj id ob ho;refine⟨h1.1.step (bR.refl _ _) (fun _ _ h=>.inl h) (fun _ _=>rfl) rfl fun b s hm=>⟨rfl,fun i hi=>?_⟩,h1.2⟩;rcases hi with hi | hi
   ·exact h1.1.apart hm i hi
   ·have:=(h.obj id ob ho).1.lt hm;have:=(hT b i hi).1;omega
  ·rcases hs with hs | hs
   ·exact hg.sin b i hs
   ·have:=hT b i hs;exact⟨this.2,.inr (.inl (aqG h.bsize this.1))⟩
theorem Inv.adopt (h:Inv G N Sin w0 σ a w S m) {id b sz:Nat} {es:List D} (hu:σ.u id=false) {B:Nat} {S':aT} (hf:FU S' w B b sz es) (hS:∀ v x,Reads S' w v x→(∃ i j,∃ h1:i<es.length,∃ h2:j<es[i].cells.length,x=es[i].cells[j])→Reads S w v x) (hB:w0.heap.size≤B) (hno:∀ i,¬ S b i) (hnew:∀ id' ob b' s,σ.h id'=some ob→m id'=some (b',s)→b'≠b) :
    Inv G N Sin w0 ⟨σ.f,upd σ.h id (some (.row sz es)),upd σ.u id true⟩ a w S (upd m id (some (b,sz))):=by
  have hm:∀ i,σ.u i=true→upd m id (some (b,sz)) i=m i:=fun i hi=>by
    unfold upd; rw[if_neg (fun e=>by rw[e,hu] at hi; cases hi)]
  have huu:∀ i,σ.u i=true→upd σ.u id true i=true:=fun i hi=>by unfold upd; split <;> simp_all
  obtain⟨f1,f2,cur,ty,fz,f3,f4,f5,f6⟩:=hf;refine h.move (bR.refl _ _) (eX.refl _) (fun _ _ h=>h) hm huu (fun i o ho=>?_) (fun i j b' s s' h1 h2 h3 h4=>?_) h.sin h.below
  ·by_cases e:i=id
   ·subst e;simp only[upd,if_true,ap2] at ho;subst ho;refine⟨?_,by simp[upd],fun j hj=>by cases hj⟩;unfold bT;simp only[upd,if_true];refine⟨rfl,.inl (by omega),hno,cur,ty,fz,f3,f4,f5,fun i hi=>⟨(f6 i hi).1,fun j hj=>?_⟩⟩;grind
   ·simp only[upd,e,if_false] at ho;have ho':=h.obj i o ho;exact⟨ho'.1.step (bR.refl _ _) (fun _ _ h=>h) (fun j hj=>hm j (ho'.2.2 j hj)) (hm i ho'.2.1) fun b s hb'=>⟨rfl,ho'.1.apart hb'⟩,huu i ho'.2.1,fun j hj=>huu j (ho'.2.2 j hj)⟩
  ·have live:∀ i s,upd σ.h id (some (.row sz es)) i≠none→upd m id (some (b,sz)) i=some (b',s)→(i=id∧b'=b)∨(i≠id∧σ.h i≠none∧m i=some (b',s)∧b'≠b):=by
     intro i s g1 g2;by_cases e:i=id
     ·subst e;simp only[upd,if_true,ap2,Prod.mk.injEq] at g2;exact .inl ⟨rfl,g2.1.symm⟩
     ·simp only[upd,e,if_false] at g1 g2;obtain⟨o,ho⟩:=aqe.1 g1;exact .inr ⟨e,g1,g2,hnew i o b' s ho g2⟩
   rcases live i s h1 h3 with ⟨e1,e2⟩ | ⟨e1,e2,e3,e4⟩ <;> rcases live j s' h2 h4 with ⟨k1,k2⟩ | ⟨k1,k2,k3,k4⟩
   ·rw[e1,k1]
   ·exact absurd e2 k4
   ·exact absurd k2 e4
   ·exact h.inj i j b' s s' e2 k2 e3 k3
theorem ahJ {id b sz n cap N':Nat} {ty:TypeId} (hcap:n≤cap) (hmax:cap≤maxLen) (hs:w.shape? b=some (ty,N')) (hle:cap*sz≤N'):RW (upd m id (some (b,sz))) S w (.slice (some ⟨b,0,none⟩) n cap) (.c (.own id sz 0 n)):=by
  show cO _ _ _ _ _ _ _
  unfold cO;simp only[upd,if_true];exact⟨trivial,_,cap,ty,N',rfl,hcap,hmax,fun _=>by simp,hs,by simpa using hle⟩
theorem Xo {id sz:Nat} {ad:Option Addr}:RW (upd m id none) S w (.slice ad 0 0) (.c (.own id sz 0 0)):=by
  show cO _ _ _ _ _ _ _
  unfold cO;simp only[upd,if_true];exact⟨⟨_,rfl⟩,trivial,trivial⟩
theorem D.flat_cells {x:D} (h:x.flat=true):∀ y∈x.cells,y.flat=true:=by
  cases x with
  | agg cs =>
    intro y hy;simp only[D.flat,ap9] at h;have:=h y hy;cases y <;> simp at this <;> rfl
  | _=>intro y hy; simp only[D.cells,apY] at hy; subst hy; exact h
theorem Mk {S' S'':aT} {w':World} {B:Nat} {v:Value} {c:C} {bl:List Nat} (hs:∀ b i,S'' b i→S' b i) (hf:c.flat=true) (h:jY S' w' B v c bl):jY S'' w' B v c bl:=by
  cases c <;> simp only[jY] at*<;> first | exact h.elim | skip
  ·exact⟨h.1.flat hf,h.2⟩
  ·rename_i sz es;rcases h with h | ⟨b,cap,ty,N',h1,h2,h3,h4,h5,h6,f1,f2,cur,ty',fz,f3,f4,f5,f6⟩
   ·exact .inl h
   ·refine .inr ⟨b,cap,ty,N',h1,h2,h3,h4,h5,h6,f1,fun i hi=>f2 i (hs _ _ hi),cur,ty',fz,f3,f4,f5,fun i hi=>⟨(f6 i hi).1,fun j hj=>?_⟩⟩;obtain⟨u,g1,g2⟩:=(f6 i hi).2 j hj;refine⟨u,g1,g2.flat ?_⟩;grind [C.flat,aqr,D.flat_cells]
theorem Ws {S' S'':aT} {w':World} {B:Nat} (hs:∀ b i,S'' b i→S' b i) {us:List Value} {cs:List C} {bl:List Nat} (h:li S' w' B us cs bl):cs.all C.flat=true→li S'' w' B us cs bl:=by
  induction h with
  | nil=>intro _; exact .nil
  | cons h1 _ ih =>
    intro hf;simp only[arY,aqm] at hf;exact .cons (Mk hs hf.1 h1) (ih hf.2)
theorem Ml {S' S'':aT} {w':World} {B:Nat} {v:Value} {x:W} {bl:List Nat} (hs:∀ b i,S'' b i→S' b i) (hf:x.flat=true) (h:i5 S' w' B v x bl):i5 S'' w' B v x bl:=by
  unfold i5 at *
  split at h
  ·obtain⟨⟨us,h1,h2⟩,h3⟩:=h;exact⟨⟨us,h1,acQ hf h2⟩,h3⟩
  ·exact Mk hs hf h
  ·obtain⟨us,h1,h2⟩:=h;exact⟨us,h1,Ws hs h2 hf⟩
theorem Wt {S' S'':aT} {w':World} {B:Nat} (hs:∀ b i,S'' b i→S' b i) {us:List Value} {cs:List W} {bl:List Nat} (h:lZ S' w' B us cs bl):cs.all W.flat=true→lZ S'' w' B us cs bl:=by
  induction h with
  | nil=>intro _; exact .nil
  | cons h1 _ ih =>
    intro hf;simp only[arY,aqm] at hf;exact .cons (Ml hs hf.1 h1) (ih hf.2)
theorem Xp {S' S'':aT} {w':World} {B:Nat} {v:Value} {x:V} {bl:List Nat} (hs:∀ b i,S'' b i→S' b i) (hf:x.flat=true) (h:mH S' w' B v x bl):mH S'' w' B v x bl:=by
  cases x with
  | w x=>exact Ml hs hf h
  | tup ws=>obtain⟨us,h1,h2⟩:=h; exact⟨us,h1,Wt hs h2 hf⟩
  | undef=>exact h
theorem Reads.byt {T T':aT} {v:Value} {x:D} (hx:x.byt1=true) (h:Reads T w v x) (H:∀ b i n,T b i→w.cell? ⟨b,i,none⟩=some (.int .u8 n)→T' b i):Reads T' w v x:=by
  cases h with
  | int=>exact .int _ _
  | bool=>exact .bool _
  | str=>exact .str _
  | nil=>exact .nil
  | sl a cap sz es u hcap hmax hsz hS hc hr =>
    simp only[D.byt1,ap9] at hx;have one:∀ i (hi:i<es.length),∃ n,es[i]=.int .u8 n:=fun i hi=>by
      have:=hx es[i] (aqr hi);unfold D.isU8 at this;grind
    have key:∀ i j,i<es.length→j<sz→∃ n,u i j=.int .u8 n:=fun i j hi hj=>by
      obtain⟨n,hn⟩:=one i hi;have hjl:j<es[i].cells.length:=by rw[hsz i hi]; exact hj
      have:=hr i j hi hjl;have hce:es[i].cells=[.int .u8 n]:=by rw[hn]; rfl
      have hj0:j=0:=by rw[hce] at hjl; simpa using hjl
      subst hj0;have he:es[i].cells[0]=.int .u8 n:=by simp only[hce,arV]
      rw[he] at this;generalize u i 0=v0 at this;cases this;exact⟨n,rfl⟩
    refine .sl a cap sz es u hcap hmax hsz (fun i j hi hj=>?_) hc fun i j hi h2=>?_
    ·grind [cell_spot]
    ·obtain⟨n,hn⟩:=key i j hi (by rw[← hsz i hi]; exact h2);have hrr:=hr i j hi h2;rw[hn] at hrr ⊢;generalize es[i].cells[j]=y at *
     cases hrr;exact .int _ _
  | ref=>simp[D.byt1] at hx
  | fn=>simp[D.byt1] at hx
  | mpN=>simp[D.byt1] at hx
  | mp=>simp[D.byt1] at hx
theorem ahK {T T':aT} {us:List Value} {cs:List D} (hx:cs.all D.byt1=true) (h:aD (Reads T w) us cs) (H:∀ b i n,T b i→w.cell? ⟨b,i,none⟩=some (.int .u8 n)→T' b i):aD (Reads T' w) us cs:=by
  refine h.weak fun u c _ hc hr=>?_
  simp only[ap9] at hx;exact hr.byt (hx c hc) H
theorem Nv {S' S'':aT} {w':World} {B:Nat} {v:Value} {c:C} {bl:List Nat} (hs:∀ b i,S'' b i→S' b i) (H:∀ b i n,S' b i→w'.cell? ⟨b,i,none⟩=some (.int .u8 n)→S'' b i) (hf:c.byt=true) (h:jY S' w' B v c bl):jY S'' w' B v c bl:=by
  cases c <;> simp only[jY] at*<;> first | exact h.elim | skip
  ·exact⟨h.1.byt hf H,h.2⟩
  ·rename_i sz es;rcases h with h | ⟨b,cap,ty,N',h1,h2,h3,h4,h5,h6,f1,f2,cur,ty',fz,f3,f4,f5,f6⟩
   ·exact .inl h
   ·refine .inr ⟨b,cap,ty,N',h1,h2,h3,h4,h5,h6,f1,fun i hi=>f2 i (hs _ _ hi),cur,ty',fz,f3,f4,f5,fun i hi=>⟨(f6 i hi).1,fun j hj=>?_⟩⟩;obtain⟨u,g1,g2⟩:=(f6 i hi).2 j hj;refine⟨u,g1,g2.byt ?_ H⟩;grind [C.byt]
theorem Xq {S' S'':aT} {w':World} {B:Nat} (hs:∀ b i,S'' b i→S' b i) (H:∀ b i n,S' b i→w'.cell? ⟨b,i,none⟩=some (.int .u8 n)→S'' b i) {us:List Value} {cs:List C} {bl:List Nat} (h:li S' w' B us cs bl):cs.all C.byt=true→li S'' w' B us cs bl:=by
  induction h with
  | nil=>intro _; exact .nil
  | cons h1 _ ih =>
    intro hf;simp only[arY,aqm] at hf;exact .cons (Nv hs H hf.1 h1) (ih hf.2)
theorem Nw {S' S'':aT} {w':World} {B:Nat} {v:Value} {x:W} {bl:List Nat} (hs:∀ b i,S'' b i→S' b i) (H:∀ b i n,S' b i→w'.cell? ⟨b,i,none⟩=some (.int .u8 n)→S'' b i) (hf:x.byt=true) (h:i5 S' w' B v x bl):i5 S'' w' B v x bl:=by
  unfold i5 at *
  grind [ahK,Nv,W.byt,Xq]
theorem Xr {S' S'':aT} {w':World} {B:Nat} (hs:∀ b i,S'' b i→S' b i) (H:∀ b i n,S' b i→w'.cell? ⟨b,i,none⟩=some (.int .u8 n)→S'' b i) {us:List Value} {cs:List W} {bl:List Nat} (h:lZ S' w' B us cs bl):cs.all W.byt=true→lZ S'' w' B us cs bl:=by
  induction h with
  | nil=>intro _; exact .nil
  | cons h1 _ ih =>
    intro hf;simp only[arY,aqm] at hf;exact .cons (Nw hs H hf.1 h1) (ih hf.2)
theorem Zo {S' S'':aT} {w':World} {B:Nat} {v:Value} {x:V} {bl:List Nat} (hs:∀ b i,S'' b i→S' b i) (H:∀ b i n,S' b i→w'.cell? ⟨b,i,none⟩=some (.int .u8 n)→S'' b i) (hf:x.byt=true) (h:mH S' w' B v x bl):mH S'' w' B v x bl:=by
  cases x with
  | w x=>exact Nw hs H hf h
  | tup ws=>obtain⟨us,h1,h2⟩:=h; exact⟨us,h1,Xr hs H h2 hf⟩
  | undef=>exact h
theorem ahL {S' T:aT} {w':World} {B:Nat} {us:List Value} {ws:List W} {bl:List Nat} (h:lZ S' w' B us ws bl) (hT:∀ b i,S' b i→T b i) (hb:∀ b∈bl,∀ i,T b i):aD (RW m T w') us (ws.map W.ro)∧(ws.map W.ro).flatMap W.ids=[]:=by
  induction h with
  | nil=>exact⟨.nil,rfl⟩
  | cons h1 _ ih =>
    have h2:=wb (m:=m) h1 hT fun b hb'=>hb b (aqL _ hb')
    have h3:=ih fun b hb'=>hb b (aqi _ hb')
    exact⟨.cons h2.1 h3.1,by rw[apW,aqb,h2.2,h3.2]; rfl⟩
theorem acR (h:Inv G N Sin w0 σ a w S m) (hd:∀ t,o.dst=some t→t<N∧w0.fx t=none) {w':World} (hb:Below w.heap.size w w') {own:Option (Nat×Nat)} {v:Value} {res:V} {S':aT} {bl:List Nat} (hS':∀ b i,S' b i→(S b i∨w.heap.size≤b)∧b<w'.heap.size) (hn:bl.Nodup) (hres:mH S' w' w.heap.size v res bl)
    {r:R} (hr:gM σ.h σ.u (o.dst.getD 0) own res=some r) (hK:K (σ.put o.dst r)):Nx G N Sin w0 K (a.put o.dst v) w':=by
  have fresh:∀ {c:W} {u:Value} {bk:List Nat},i5 S' w' w.heap.size u c bk→∀ b∈bk,w.heap.size≤b∧b<w'.heap.size∧∀ i,¬ S' b i:=by
    have c0:∀ {c:C} {u:Value} {bk:List Nat},jY S' w' w.heap.size u c bk→∀ b∈bk,w.heap.size≤b∧b<w'.heap.size∧∀ i,¬ S' b i:=by
      intro c u bk hc b hbk;cases c <;> simp only[jY] at hc <;> first | exact hc.elim | skip
      ·rw[hc.2] at hbk; cases hbk
      ·rcases hc with ⟨_,_,rfl⟩ | ⟨b',cap,ty,N',rfl,_,_,_,_,_,hf⟩
       ·cases hbk
       ·simp only[apY] at hbk;subst hbk;obtain⟨f1,f2,cur,ty',fz,f3,_⟩:=hf;exact⟨f1,(aqp.1 f3).1,f2⟩
    have cs0:∀ {us:List Value} {cs:List C} {bk:List Nat},li S' w' w.heap.size us cs bk→∀ b∈bk,w.heap.size≤b∧b<w'.heap.size∧∀ i,¬ S' b i:=by
      intro us cs bk hc
      induction hc with
      | nil=>intro b hb; cases hb
      | cons h1 _ ih =>
        grind
    intro c u bk hc;unfold i5 at hc;grind
  have freshs:∀ {us:List Value} {ws:List W} {bk:List Nat},lZ S' w' w.heap.size us ws bk→∀ b∈bk,w.heap.size≤b∧b<w'.heap.size∧∀ i,¬ S' b i:=by
    intro us ws bk hc
    induction hc with
    | nil=>intro b hb; cases hb
    | cons h1 _ ih =>
      grind
  have allfresh:∀ b∈bl,w.heap.size≤b∧b<w'.heap.size∧∀ i,¬ S' b i:=by
    unfold mH at hres;grind
  have T0:∀ (bx:Option Nat),∃ T:aT,(∀ b i,T b i→w.heap.size≤b∧b<w'.heap.size)∧(∀ b i,S' b i→S b i∨T b i)∧(∀ b∈bl,bx≠some b→∀ i,S b i∨T b i)∧(∀ b,bx=some b→b∈bl→∀ i,¬ (S b i∨T b i)):=by
    intro bx;refine⟨fun b i=>(S' b i∧w.heap.size≤b)∨(b∈bl∧bx≠some b),fun b i ht=>?_,fun b i hs=>?_,fun b hbl hne i=>.inr (.inr ⟨hbl,hne⟩),fun b he hbl i hh=>?_⟩
    ·grind
    ·grind
    ·rcases hh with hh | hh | hh
     ·have:=(h.sin b i hh).1;have:=(allfresh b hbl).1;omega
     ·exact (allfresh b hbl).2.2 i hh.1
     ·exact hh.2 he
  have only:r=(res.ro,σ.h,σ.u)→Nx G N Sin w0 K (a.put o.dst v) w':=by
    intro er;subst er;obtain⟨T,t1,t2,t3,_⟩:=T0 none;have h1:=h.callee hb T t1;have hv:RV m (fun b i=>S b i∨T b i) w' v res.ro∧res.ro.ids=[]:=by
      unfold mH at hres;split at hres
      ·exact wb hres t2 fun b hb=>t3 b hb (by simp)
      ·obtain⟨us,h2,h3⟩:=hres;have:=ahL (m:=m) h3 t2 fun b hb=>t3 b hb (by simp)
       exact⟨⟨us,h2,this.1⟩,this.2⟩
      ·exact hres.elim
    exact⟨_,_,_,hK,h1.put o.dst hd hv.1 fun i hi=>by rw[hv.2] at hi; cases hi⟩
  unfold gM at hr;split at hr
  ·exact only (Option.some.inj hr).symm
  ·exact only (Option.some.inj hr).symm
  ·rename_i k sz0;obtain⟨sz,hsz⟩:∃ sz,sz=sz0+1:=⟨_,rfl⟩
   rw[← hsz] at hr
   have own1:∀ {u:Value} {es:List D} {bk:List Nat},σ.u (8*o.dst.getD 0)=false→i5 S' w' w.heap.size u (.c (.fr sz es)) bk→(∀ b∈bk,b∈bl) →
       ∃ (T:aT) (m':Mp),Inv G N Sin w0 ⟨σ.f,upd σ.h (8*o.dst.getD 0) (some (.row sz es)),upd σ.u (8*o.dst.getD 0) true⟩ a w' (fun b i=>S b i∨T b i) m'∧RW m' (fun b i=>S b i∨T b i) w' u (.c (.own (8*o.dst.getD 0) sz 0 es.length))∧(∀ b i,S' b i→S b i∨T b i)∧(∀ b∈bl,b∉bk→∀ i,S b i∨T b i):=by
     intro u es bk hu hw hbk;rcases hw with ⟨⟨ad,rfl⟩,rfl,rfl⟩ | ⟨b,cap,ty,N',rfl,rfl,c1,c2,c3,c4,c5⟩
     ·obtain⟨T,t1,t2,t3,_⟩:=T0 none;have h1:=(h.callee hb T t1).newNil (sz:=sz) hu;exact⟨T,_,h1,Xo,t2,fun b hb _=>t3 b hb (by simp)⟩
     ·obtain⟨T,t1,t2,t3,t4⟩:=T0 (some b);have hbl:=hbk b (by simp);have h1:=(h.callee hb T t1).adopt hu c5 (fun v x hr _=>hr.mono t2) h.bsize (t4 b rfl hbl) (fun id' ob b' s g1 g2 e=>by
        have:=(h.obj id' ob g1).1.lt g2;have:=(allfresh b hbl).1;omega)
      exact⟨T,_,h1,ahJ c1 c2 c3 c4,t2,fun b' hb' hn'=>t3 b' hb' fun e=>hn' (by cases e; simp)⟩
   unfold sE at hr;split at hr
   ·rename_i sz' es;split at hr
    ·rename_i hc;obtain⟨rfl,rfl,hu⟩:=hc;cases hr;obtain⟨T,m',h1,h2,_⟩:=own1 hu hres fun b hb=>hb
     exact⟨_,_,_,hK,h1.put o.dst hd (x:=.w (.c (.own (8*o.dst.getD 0) sz' 0 es.length))) h2 fun i hi=>by
       grind [V.ids,W.ids,C.ids,upd]⟩
    ·cases hr
   ·rename_i ws;split at hr
    ·rename_i sz' es hk;split at hr
     ·rename_i hc;obtain⟨rfl,hu⟩:=hc;cases hr;obtain⟨us,rfl,hws⟩:=hres;obtain⟨u,bk,g1,g2,g3,g4⟩:=Xk hws hn k _ hk;obtain⟨T,m',h1,h2,h3,h4⟩:=own1 hu g2 g3;have hlen:=Xl hws;have hkl:k<ws.length:=(aqd.1 hk).1;have all:∀ j z,ws[j]?=some z→j≠k→∃ u',us[j]?=some u'∧RW m' (fun b i=>S b i∨T b i) w' u' z.ro∧z.ro.ids=[]:=by
        grind [wb]
      refine⟨_,_,_,hK,h1.put o.dst hd (x:=.tup _) ⟨us,rfl,.mk (by simp[hlen]) fun j j1 j2=>?_⟩ fun i hi=>?_⟩
      ·simp only[ar6,aqn];by_cases e:k=j
       ·grind
       ·rw[if_neg e];have j3:j<ws.length:=by omega
        obtain⟨u',q1,q2,_⟩:=all j ws[j] (apR j3) (fun e'=>e e'.symm);grind
      ·simp only[V.ids,aqc] at hi;obtain⟨z,hz,hi⟩:=hi;obtain⟨j,hj,rfl⟩:=aqs hz;simp only[ar6,aqn] at hi;by_cases e:k=j
       ·rw[if_pos e] at hi;grind [W.ids,C.ids,upd]
       ·rw[if_neg e] at hi;have j3:j<ws.length:=by simpa using hj
        obtain⟨u',q1,_,q2⟩:=all j ws[j] (apR j3) (fun e'=>e e'.symm);rw[q2] at hi;cases hi
     ·cases hr
    ·cases hr
   ·rename_i cs;split at hr
    ·rename_i sz' es hk;split at hr
     ·rename_i hc;obtain⟨rfl,hu⟩:=hc;cases hr;obtain⟨us,rfl,hws⟩:∃ us:List Value,v=.agg us.toArray∧li S' w' w.heap.size us cs bl:=hres
      obtain⟨u,bk,g1,g2,g3,g4⟩:=Xm hws hn k _ hk;obtain⟨T,m',h1,h2,h3,h4⟩:=own1 hu (show i5 S' w' w.heap.size u (.c (.fr sz' es)) bk from g2) g3;have hlen:=Xn hws;have hkl:k<cs.length:=(aqd.1 hk).1;have all:∀ j z,cs[j]?=some z→j≠k→∃ u',us[j]?=some u'∧RC m' (fun b i=>S b i∨T b i) w' u' z.ro∧z.ro.ids=[]:=by
        grind [G2]
      refine⟨_,_,_,hK,h1.put o.dst hd (x:=.w (.mix _)) ⟨us,rfl,.mk (by simp[hlen]) fun j j1 j2=>?_⟩ fun i hi=>?_⟩
      ·simp only[ar6,aqn];by_cases e:k=j
       ·subst e;rw[if_pos rfl];have e2:us[k]=u:=by
          grind
        rw[e2]; exact h2
       ·rw[if_neg e];have j3:j<cs.length:=by omega
        obtain⟨u',q1,q2,_⟩:=all j cs[j] (apR j3) (fun e'=>e e'.symm);grind
      ·simp only[V.ids,W.ids,aqc] at hi;obtain⟨z,hz,hi⟩:=hi;obtain⟨j,hj,rfl⟩:=aqs hz;simp only[ar6,aqn] at hi;by_cases e:k=j
       ·rw[if_pos e] at hi;grind [C.ids,upd]
       ·rw[if_neg e] at hi;have j3:j<cs.length:=by simpa using hj
        obtain⟨u',q1,_,q2⟩:=all j cs[j] (apR j3) (fun e'=>e e'.symm);rw[q2] at hi;cases hi
     ·cases hr
    ·cases hr
   ·cases hr
theorem acS {g:Nat→Nat} {cs:List C} {us:List Value} {m:Mp} (h:aD (RC m S w) us (cs.map (C.ren g))) (k:∀ v c,RC m S w v (c.ren g)→RC (fun i=>m (g i)) S w v c):aD (RC (fun i=>m (g i)) S w) us cs:=by
  have hl:=h.length;rw[ap1] at hl;refine .mk hl fun i h1 h2=>?_
  have:=h.get i h1 (by simpa using h2);rw[aqn] at this;exact k _ _ this
theorem Bo {g:Nat→Nat} {us:List Value}:∀ {cs:List Cp},aD (fu m S w) us (cs.map (Cp.ren g))↔aD (fu (fun i=>m (g i)) S w) us cs:=by
  have one:∀ (v:Value) (c:Cp),fu m S w v (c.ren g)↔fu (fun i=>m (g i)) S w v c:=fun v c=>by cases c <;> exact Iff.rfl
  intro cs;constructor <;> intro h
  ·have hl:=h.length;rw[ap1] at hl;refine .mk hl fun i h1 h2=>?_
   have:=h.get i h1 (by simpa using h2);rw[aqn] at this;exact (one _ _).1 this
  ·have hl:=h.length;refine .mk (by simpa using hl) fun i h1 h2=>?_
   rw[aqn];exact (one _ _).2 (h.get i h1 (by simpa using h2))
theorem RC.ren {g:Nat→Nat} {v:Value} {c:C} (h:RC m S w v (c.ren g)):RC (fun i=>m (g i)) S w v c:=by
  cases c with
  | cf f pre post =>
    obtain⟨us,vs,h1,h2,h3⟩:=h;exact⟨us,vs,h1,Bo.1 h2,Bo.1 h3⟩
  | _=>exact h
theorem RC.unren {g:Nat→Nat} {v:Value} {c:C} (h:RC (fun i=>m (g i)) S w v c):RC m S w v (c.ren g):=by
  cases c with
  | cf f pre post =>
    obtain⟨us,vs,h1,h2,h3⟩:=h;exact⟨us,vs,h1,Bo.2 h2,Bo.2 h3⟩
  | _=>exact h
theorem aD.mapR {α β γ:Type} {R:α→γ→Prop} {R':α→β→Prop} {f:β→γ} {us:List α} {cs:List β} (h:aD R' us cs) (k:∀ u c,R' u c→R u (f c)):aD R us (cs.map f):=by
  induction h with
  | nil=>exact .nil
  | cons h1 _ ih=>exact .cons (k _ _ h1) ih
theorem RW.unren {g:Nat→Nat} {v:Value} {x:W} (h:RW (fun i=>m (g i)) S w v x):RW m S w v (x.ren g):=by
  cases x with
  | c c =>
    cases c with
    | d x=>cases x <;> exact h
    | cf f pre post=>exact RC.unren (c:=.cf f pre post) h
    | _=>exact h
  | mix cs =>
    obtain⟨us,h1,h2⟩:=h;exact⟨us,h1,h2.mapR fun _ _ h=>h.unren⟩
theorem RV.unren {g:Nat→Nat} {v:Value} {x:V} (h:RV (fun i=>m (g i)) S w v x):RV m S w v (x.ren g):=by
  cases x with
  | w x=>exact RW.unren h
  | tup ws =>
    obtain⟨us,h1,h2⟩:=h;exact⟨us,h1,h2.mapR fun _ _ h=>h.unren⟩
  | undef=>trivial
theorem dw.unren {g:Nat→Nat} {sz:Nat} {cur:Array Value} {o:Ob} (h:dw (fun i=>m (g i)) S w sz cur o):dw m S w sz cur (o.ren g):=by
  cases o with
  | mp q es=>trivial
  | it q l p=>trivial
  | row s es=>exact h
  | box cs =>
    obtain⟨h1,h2⟩:=h;refine⟨by rw[ap1]; exact h1,fun j hj=>?_⟩;obtain⟨v,k1,k2⟩:=h2 j (by simpa using hj);refine⟨v,k1,?_⟩;rw[aqn];exact k2.unren
theorem Cp.ids_ren (g:Nat→Nat) (c:Cp):(c.ren g).ids=c.ids.map g:=by cases c <;> rfl
theorem x7 {α:Type} (f:α→List Nat) (r:α→α) (g:Nat→Nat) (h:∀ x,f (r x)=(f x).map g) (l:List α):(l.map r).flatMap f=(l.flatMap f).map g:=by
  induction l with
  | nil=>rfl
  | cons a l ih=>simp only[apW,aqb,ih,h,ap8]
theorem C.ids_ren (g:Nat→Nat) (c:C):(c.ren g).ids=c.ids.map g:=by
  cases c with
  | cf f pre post=>grind [C.ren,C.ids,x7,Cp.ids_ren]
  | _=>rfl
theorem W.ids_ren (g:Nat→Nat) (x:W):(x.ren g).ids=x.ids.map g:=by
  cases x with
  | c c=>exact C.ids_ren g c
  | mix cs=>exact x7 _ _ g (C.ids_ren g) cs
theorem V.ids_ren (g:Nat→Nat) (x:V):(x.ren g).ids=x.ids.map g:=by
  cases x with
  | w x=>exact W.ids_ren g x
  | tup ws=>exact x7 _ _ g (W.ids_ren g) ws
  | undef=>rfl
theorem Ob.ids_ren (g:Nat→Nat) (o:Ob):(o.ren g).ids=o.ids.map g:=by
  cases o with
  | mp q es=>exact x7 (fun p:Int×C=>p.2.ids) (fun p=>(p.1,p.2.ren g)) g (fun p=>C.ids_ren g p.2) es
  | it q l p=>rfl
  | row s es=>rfl
  | box cs=>exact x7 _ _ g (C.ids_ren g) cs
theorem Ob.sz_ren (g:Nat→Nat) (o:Ob):(o.ren g).sz=o.sz:=by cases o <;> rfl
theorem RW.ren {g:Nat→Nat} {v:Value} {x:W} (h:RW m S w v (x.ren g)):RW (fun i=>m (g i)) S w v x:=by
  cases x with
  | c c =>
    cases c with
    | d x=>cases x <;> exact h
    | cf f pre post=>exact RC.ren (c:=.cf f pre post) h
    | _=>exact h
  | mix cs =>
    obtain⟨us,h1,h2⟩:=h;exact⟨us,h1,acS h2 fun _ _ h=>h.ren⟩
theorem RV.ren {g:Nat→Nat} {v:Value} {x:V} (h:RV m S w v (x.ren g)):RV (fun i=>m (g i)) S w v x:=by
  cases x with
  | w x=>exact RW.ren h
  | tup ws =>
    obtain⟨us,h1,h2⟩:=h;have hl:=h2.length;rw[ap1] at hl;refine⟨us,h1,.mk hl fun i k1 k2=>?_⟩;have:=h2.get i k1 (by simpa using k2);rw[aqn] at this;exact this.ren
  | undef=>trivial
theorem dw.ren {g:Nat→Nat} {sz:Nat} {cur:Array Value} {o:Ob} (h:dw m S w sz cur (o.ren g)):dw (fun i=>m (g i)) S w sz cur o:=by
  cases o with
  | mp q es=>trivial
  | it q l p=>trivial
  | row s es=>exact h
  | box cs =>
    obtain⟨h1,h2⟩:=h;rw[ap1] at h1;refine⟨h1,fun j hj=>?_⟩;obtain⟨v,k1,k2⟩:=h2 j (by simpa using hj);rw[aqn] at k2;exact⟨v,k1,k2.ren⟩
theorem aD.mapL {α β γ:Type} {R:α→γ→Prop} {R':α→β→Prop} {f:β→γ}:∀ {us:List α} {cs:List β},aD R us (cs.map f)→(∀ u c,R u (f c)→R' u c)→aD R' us cs
  | [],[],_,_=>.nil
  | _::_,[],h,_=>by cases h
  | [],_::_,h,_=>by cases h
  | _::_,_::_,.cons h1 h2,k=>.cons (k _ _ h1) (aD.mapL h2 k)
theorem gG.ren {g:Nat→Nat} {b:Nat} {cur:Array Value} {ty:TypeId} {fz:Nat×Nat} {o:Ob} (h:gG m S w b cur ty fz (o.ren g)):gG (fun i=>m (g i)) S w b cur ty fz o:=by
  cases o with
  | row s es=>exact h
  | box cs=>exact h
  | it q l p=>exact h
  | mp q es =>
    obtain⟨E,c,h1,h2,h3⟩:=h;exact⟨E,c,h1,aD.mapL (f:=fun p:Int×C=>(p.1,p.2.ren g)) h2 fun _ _ h=>⟨h.1,RW.ren (x:=.c _) h.2⟩,h3⟩
theorem gG.unren {g:Nat→Nat} {b:Nat} {cur:Array Value} {ty:TypeId} {fz:Nat×Nat} {o:Ob} (h:gG (fun i=>m (g i)) S w b cur ty fz o):gG m S w b cur ty fz (o.ren g):=by
  cases o with
  | row s es=>exact h
  | box cs=>exact h
  | it q l p=>exact h
  | mp q es =>
    obtain⟨E,c,h1,h2,h3⟩:=h;exact⟨E,c,h1,aD.mapR (f:=fun p:Int×C=>(p.1,p.2.ren g)) h2 fun _ _ h=>⟨h.1,RW.unren (x:=.c _) h.2⟩,h3⟩
theorem bT.ren {g:Nat→Nat} {B:Nat→Prop} {id:Nat} {o:Ob} (h:bT m S B w (g id) (o.ren g)):bT (fun i=>m (g i)) S B w id o:=by
  unfold bT at h ⊢
  show match m (g id) with | none=>_ | some (b,sz)=>_
  split at h
  ·obtain⟨sz,e⟩:=h;rename_i hm;rw[hm];cases o with
   | row s es=>exact⟨sz,e⟩
   | box cs=>cases e
   | mp q es=>cases e
   | it q l p=>cases e
  ·rename_i b sz hm;rw[hm];obtain⟨k1,k2,k3,cur,ty,fz,k4,k5,k6⟩:=h;exact⟨(Ob.sz_ren g o).symm.trans k1,k2,k3,cur,ty,fz,k4.ren,k5,k6.ren⟩
theorem bT.unren {g:Nat→Nat} {B:Nat→Prop} {id:Nat} {o:Ob} (h:bT (fun i=>m (g i)) S B w id o):bT m S B w (g id) (o.ren g):=by
  unfold bT at h ⊢;change (match m (g id) with | none=>_ | some (b,sz)=>_) at h;split at h
  ·obtain⟨sz,e⟩:=h;rename_i hm;rw[hm];exact⟨sz,by rw[e]; rfl⟩
  ·rename_i b sz hm;rw[hm];obtain⟨k1,k2,k3,cur,ty,fz,k4,k5,k6⟩:=h;exact⟨(Ob.sz_ren g o).trans k1,k2,k3,cur,ty,fz,k4.unren,k5,k6.unren⟩
theorem bT.may {B C:Nat→Prop} {id:Nat} {o:Ob} (h:bT m S B w id o) (k:∀ b,B b→C b):bT m S C w id o:=by
  grind [bT]
theorem dw.congr {m':Mp} {sz:Nat} {cur:Array Value} {o:Ob} (h:dw m S w sz cur o) (e:∀ i∈o.ids,m' i=m i):dw m' S w sz cur o:=h.step (bR.refl _ _) (fun _ _ h=>h) e
theorem bT.congr {m':Mp} {B:Nat→Prop} {id:Nat} {o:Ob} (h:bT m S B w id o) (e0:m' id=m id) (e:∀ i∈o.ids,m' i=m i):bT m' S B w id o:=by
  unfold bT at h ⊢;rw[e0];split at h
  ·exact h
  ·obtain⟨k1,k2,k3,cur,ty,fz,k4,k5,k6⟩:=h;exact⟨k1,k2,k3,cur,ty,fz,k4.step (bR.refl _ _) (fun _ _ h=>h) e rfl,k5,k6.congr e⟩
theorem bT.blk {B:Nat→Prop} {id:Nat} {o:Ob} (h:bT m S B w id o) {b s:Nat} (hm:m id=some (b,s)):B b:=by
  unfold bT at h;rw[hm] at h;exact h.2.1
theorem ahM (h:Inv G N Sin w0 σ a w S m) (hd:∀ t,o.dst=some t→t<N∧w0.fx t=none) {f:FuncId} {xs:List W} {vs:List Value} (hvs:aD (fun v x=>RW m S w v x) vs xs) {r:R} (hr:oB P G σ.h σ.u f xs r) (hK:K (σ.put o.dst r)) :
    Calls P f vs.toArray w fun e w'=>∃ v,e=.returned v∧Nx G N Sin w0 K (a.put o.dst v) w':=by
  obtain⟨g,args,h0,L,res,h1,L1,⟨⟨p1,p2,p3,p4,p5⟩,hden⟩,rfl,hh0,hinj,hfresh,_,rfl⟩:=hr;have live:∀ id∈L,∃ o,h0 id=some o∧σ.h (g id)=some (o.ren g):=fun id hid=>by
    obtain⟨o,ho⟩:=aqe.1 (p2 id hid);exact⟨o,ho,hh0 id o ho⟩
  have usedL:∀ id∈L,σ.u (g id)=true:=fun id hid=>by obtain⟨o,_,ho⟩:=live id hid; exact (h.obj _ _ ho).2.1
  refine (hden w S vs (fun i=>m (g i)) (fun b i hs=>(h.sin b i hs).1) h.glob (fun id o ho=>?_) (fun i j b s s' hi hj e1 e2=>?_) ?_).mono ?_
  ·exact ((h.obj _ _ (hh0 id o ho)).1.may fun _ _=>trivial).ren
  ·obtain⟨oi,hi'⟩:=aqe.1 hi;obtain⟨oj,hj'⟩:=aqe.1 hj;exact hinj i (aqL _ (p1 i oi hi').1) j (aqL _ (p1 j oj hj').1) (h.inj (g i) (g j) b s s' (by rw[hh0 i oi hi']; simp) (by rw[hh0 j oj hj']; simp) e1 e2)
  ·have hl:=hvs.length;rw[ap1] at hl;refine .mk hl fun i i1 i2=>?_
   have:=hvs.get i i1 (by simpa using i2);rw[aqn] at this;exact this.ren
  rintro e w' ⟨v,S',m',rfl,hbel,hko,hkeep,hSS,hS',hmL,hob1,hinj1,hres⟩;refine⟨v,rfl,?_⟩;have blkMay:∀ b,pg h0 (fun i=>m (g i)) b→w0.may b:=by
    rintro b ⟨id,o,s,ho,hm⟩;exact (h.obj _ _ (hh0 id o ho)).1.blk hm
  obtain⟨m2,hm2⟩:∃ m2:Mp,m2=fun i=>match L1.find? (fun id=>g id==i&&!L.contains id) with | some id=>m' id | none=>m i:=⟨_,rfl⟩
  have mold:∀ i,σ.u i=true→m2 i=m i:=by
    grind
  have mnew:∀ id∈L1,m2 (g id)=m' id:=by
    grind
  have unew:∀ id∈L1,mC σ.u g L1 (g id)=true:=by
    intro id hl;unfold mC;grind
  have frame:∀ i ob b s,σ.h i=some ob→(∀ id∈L,g id≠i)→m i=some (b,s)→b<w.heap.size∧¬ pg h0 (fun i=>m (g i)) b∧w'.heap[b]?=w.heap[b]?∧∀ j,¬ S' b j:=by
    intro i ob b s ho hn hm;have hlt:=(h.obj i ob ho).1.lt hm;have hnb:¬ pg h0 (fun i=>m (g i)) b:=by
      rintro⟨id,o',s',ho',hm'⟩;exact hn id (p1 id o' ho').1 (h.inj (g id) i b s' s (by rw[hh0 id o' ho']; simp) (by rw[ho]; simp) hm' hm)
    refine⟨hlt,hnb,hbel.block b hlt hnb,fun j hj=>?_⟩;rcases (hS' b j hj).2 with h1 | h1 | h1
    ·exact (h.obj i ob ho).1.apart hm j h1
    ·omega
    ·exact hnb h1
  have split:∀ i ob,kG σ.h g L L1 h1 i=some ob→(∃ id o,id∈L1∧g id=i∧h1 id=some o∧ob=o.ren g)∨((∀ id∈L,g id≠i)∧(∀ id∈L1,g id≠i)∧σ.h i=some ob):=by
    intro i ob hi;unfold kG at hi;split at hi
    ·rename_i id hf;have k1:=arJ hf;have k2:=List.find?_some hf;simp only[beq_iff_eq] at k2;grind [apV]
    grind
  have hI:Inv G N Sin w0 ⟨σ.f,kG σ.h g L L1 h1,mC σ.u g L1⟩ a w' S' m2:=by
    refine h.move hkeep hko hSS mold (fun i hi=>by unfold mC; rw[hi,Bool.true_or]) (fun i ob hi=>?_) (fun i j b s s' hi hj e1 e2=>?_) (fun b i hs=>?_) (h.below.trans (hbel.mono h.bsize fun b hb hx=>(blkMay b hx).resolve_left (by omega)))
    ·rcases split i ob hi with ⟨id,o,k1,rfl,k3,rfl⟩ | ⟨k1,k2,k3⟩
     ·have k4:=hob1 id o k3;have k5:=(p4 id o k3).2;refine⟨bT.unren ((k4.congr (m':=fun i=>m2 (g i)) (mnew id k1) fun j hj=>mnew j (k5 j hj)).may fun b hb=>?_),unew id k1,fun j hj=>?_⟩
      ·rcases hb with hb | hb
       ·exact .inl (aqG h.bsize hb)
       ·exact blkMay b hb
      ·rw[Ob.ids_ren] at hj;grind
     ·have k4:=h.obj i ob k3;refine⟨k4.1.step hkeep hSS (fun j hj=>mold j (k4.2.2 j hj)) (mold i k4.2.1) fun b s hm=>?_,?_,fun j hj=>?_⟩
      ·grind
      ·unfold mC; rw[k4.2.1,Bool.true_or]
      ·unfold mC; rw[k4.2.2 j hj,Bool.true_or]
    ·obtain⟨oi,hi'⟩:=aqe.1 hi;obtain⟨oj,hj'⟩:=aqe.1 hj;have mixed:∀ i j b s s' oi id o,(∀ id∈L,g id≠i)→σ.h i=some oi→id∈L1→h1 id=some o→g id=j→m2 i=some (b,s)→m2 j=some (b,s')→False:=by
       rintro i j b s s' oi id o q1 q2 q3 q4 rfl e1 e2;rw[mold i (h.obj i oi q2).2.1] at e1;rw[mnew id q3] at e2;obtain⟨t1,t2,_,_⟩:=frame i oi b s q2 q1 e1;rcases (hob1 id o q4).blk e2 with hb | hb
       ·omega
       ·exact t2 hb
     rcases split i oi hi' with ⟨id,o,k1,k2,k3,_⟩ | ⟨k1,k2,k3⟩ <;> rcases split j oj hj' with ⟨id',o',q1,q2,q3,_⟩ | ⟨q1,q2,q3⟩
     ·grind
     ·exact (mixed j i b s' s oj id o q1 q3 k1 k3 k2 e2 e1).elim
     ·exact (mixed i j b s s' oi id' o' k1 k3 q1 q3 q2 e1 e2).elim
     ·rw[mold i (h.obj i oi k3).2.1] at e1;rw[mold j (h.obj j oj q3).2.1] at e2;exact h.inj i j b s s' (by rw[k3]; simp) (by rw[q3]; simp) e1 e2
    ·obtain⟨k1,k2⟩:=hS' b i hs;refine⟨k1,?_⟩;rcases k2 with k2 | k2 | k2
     ·exact (h.sin b i k2).2
     ·exact .inr (.inl (aqG h.bsize k2))
     ·exact .inr (blkMay b k2)
  refine⟨_,S',m2,hK,hI.put o.dst hd (x:=res.ren g) (RV.unren (hres.congr fun i hi=>mnew i (p5 i hi))) fun i hi=>?_⟩;grind [V.ids_ren]
end
end Go.Proofs.YtnjhelpgohdajaaGreatDoor
