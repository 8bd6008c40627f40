/- Texts of one's own, merged: from: The plain logic (7): parts,cuts,indexes,loads. Own work. -/
import Derived.Laws.StructEq
import Derived.Test.YteohdchecapkfaaMg42
set_option linter.unusedVariables false
set_option linter.unusedSimpArgs false
namespace Go.Proofs.Yteohdchecapkfaa
open Go.RowKit
section
variable {P:Program} {G:au} {N:Nat} {Sin:ae} {w0:Gh} {σ:St} {a:Act} {w:World} {S:ae} {m:Mp} {o:Oper} {K:St→Prop} {Q:Exit→Act→World→Prop}
theorem gS {x:V} {v:Value} {cs:List C} (h:RV m S w v x) (e:bT x=some cs):∃ us:List Value,v=.agg us.toArray∧ab (RC m S w) us cs∧cs.flatMap C.ids=x.ids:=by
  unfold bT at e;split at e
  ·rename_i y;unfold d9 at e;split at e
   ·rename_i ds;cases e;obtain⟨us,rfl,h1⟩:=h;refine⟨us,rfl,.mk (by simp[h1.length]) fun i g1 g2=>?_,?_⟩
    ·simp only[zk];exact h1.get i g1 (by simpa using g2)
    ·simp only[V.ids,W.ids,C.ids]
     induction ds with
     | nil=>rfl
     | cons c r ih=>simp[C.ids]
   ·cases e;obtain⟨us,rfl,h1⟩:=h;exact⟨us,rfl,h1,rfl⟩
   ·cases e
  ·cases e
theorem xa {k:Nat} {x y:C} {v u:Value} {b:Bool} (hx:RC m S w v x) (hy:RC m S w u y) (e:dT k x y=some b) {t:TypeId} (hk:kj P t=some k) (d:Nat) :
    (Op.equalIn (d+1) t v u).run P w=.ok b w∧(isAgg t).run P w=.ok false w:=by
  unfold kj at hk;unfold dT at e;split at e
  ·split at e
   ·rename_i k1 a k2 c hkk;subst hkk;cases e;cases hx; cases hy
    split at hk <;> cases hk;rename_i ht;exact⟨run_equalIn_int w d t _ _ _ _ ht,by simp[isAgg,run_underlying ht]⟩
   ·cases e
  ·cases e;cases hx; cases hy
   split at hk <;> cases hk;rename_i ht;exact⟨run_equalIn_bool' w d t _ _ ht,by simp[isAgg,run_underlying ht]⟩
  ·cases e;cases hx; cases hy
   split at hk <;> cases hk;rename_i ht;exact⟨run_equalIn_string w d t _ _ ht,by simp[isAgg,run_underlying ht]⟩
  ·cases e
theorem mF (d:Nat):∀ (fs:List Field) (i:Nat) (ks:List Nat) (xs ys:List C) (us vs:List Value) (b:Bool),ii P fs i=some ks→de ks xs ys=some b →
    ab (RC m S w) (us.drop i) xs→ab (RC m S w) (vs.drop i) ys→(Op.eqFields (d+1) us.toArray vs.toArray fs).run P w=.ok b w
  | [],i,ks,xs,ys,us,vs,b,hf,he,h1,h2=>by
    cases hf;cases xs with
    | nil =>
      cases ys with
      | nil=>cases he; rfl
      | cons _ _=>cases he
    | cons _ _=>cases he
  | f::fs,i,ks,xs,ys,us,vs,b,hf,he,h1,h2=>by
    unfold ii at hf;split at hf
    ·rename_i hn;split at hf
     ·rename_i k ks' hk hks;cases hf;cases xs with
      | nil=>cases ys <;> cases he
      | cons a r =>
        cases ys with
        | nil=>cases he
        | cons c s =>
        rw[jD] at he;obtain⟨p,q,hp,hq,rfl⟩:∃ p q,dT k a c=some p∧de ks' r s=some q∧(p&&q)=b:=by
          cases hp:dT k a c with
          | none=>rw[hp] at he; cases he
          | some p =>
            cases hq:de ks' r s with
            | none=>rw[hp,hq] at he; cases he
            | some q=>rw[hp,hq] at he; cases he; exact⟨p,q,rfl,rfl,rfl⟩
        focus
          obtain⟨ua,ur,e1,ha,hr⟩:∃ ua ur,us.drop i=ua::ur∧RC m S w ua a∧ab (RC m S w) ur r:=by
            cases hu:us.drop i with
            | nil=>rw[hu] at h1; cases h1
            | cons x y=>rw[hu] at h1; cases h1 with | cons q1 q2=>exact⟨_,_,rfl,q1,q2⟩
          obtain⟨vc,vs',e2,hc,hs⟩:∃ vc vs',vs.drop i=vc::vs'∧RC m S w vc c∧ab (RC m S w) vs' s:=by
            cases hu:vs.drop i with
            | nil=>rw[hu] at h2; cases h2
            | cons x y=>rw[hu] at h2; cases h2 with | cons q1 q2=>exact⟨_,_,rfl,q1,q2⟩
          have g1:us[i]?=some ua:=by rw[← List.head?_drop,e1]; rfl
          have g2:vs[i]?=some vc:=by rw[← List.head?_drop,e2]; rfl
          have d1:us.drop (i+1)=ur:=by rw[← List.tail_drop,e1]; rfl
          have d2:vs.drop (i+1)=vs':=by rw[← List.tail_drop,e2]; rfl
          obtain⟨r1,r2⟩:=xa ha hc hp hk d;have ih:=mF d fs (i+1) ks' r s us vs q hks hq (by rw[d1]; exact hr) (by rw[d2]; exact hs);have p1:(part f.type us.toArray f.offset).run P w=.ok ua w:=by
            rw[hn.2]; simp[part,r2,g1]
          have p2:(part f.type vs.toArray f.offset).run P w=.ok vc w:=by
            rw[hn.2]; simp[part,r2,g2]
          unfold Op.eqFields;rw[if_pos hn.1];simp only[Sem.run_bind,p1,p2,r1,Result.andThen_ok];cases p
          ·simp
          ·simpa using ih
     ·cases hf
    ·cases hf
theorem xb (neg:Bool) (op:BinOp) (hop:op=if neg then .neq else .eql) (t t':TypeId) {ks:List Nat} (ht:ij P t=some ks) (x y:Operand) (x' y':SX) (ho:o.op=.binOp op t x y t') (hx:ai x=some x') (hy:ai y=some y') (h:Inv G N Sin w0 σ a w S m) (hd:∀ t,o.dst=some t→t<N∧w0.fx t=none)
    {d:D} (hb:gm neg ks (ev G σ.f x') (ev G σ.f y')=some d) (hK:K (σ.put o.dst (vd d,σ.h,σ.u))):o.wp P a w (Nx G N Sin w0 K) Q:=by
  have h1:=(h.operand hx).1;have h2:=(h.operand hy).1;obtain⟨cs,ds,b,e1,e2,hbb,rfl⟩:=xR hb
  ·obtain⟨us,g1,q1,_⟩:=gS h1 e1;obtain⟨vs,g2,q2,_⟩:=gS h2 e2;unfold ij at ht;split at ht
   ·rename_i fs hu;split at ht
    ·rename_i hg;have hfo:P.fieldsOf t=fs:=by unfold Program.fieldsOf; rw[hu]
     have key:=run_equalIn_agg (P:=P) w 9999 t us.toArray vs.toArray (by rw[hfo]; exact hu) hg.1;rw[hfo,mF 9998 fs.toList 0 ks cs ds us vs b ht hbb (by simpa using q1) (by simpa using q2)] at key;refine bV h hd ?_ (.bool _) hK;simp only[execOp,ho,g1,g2];have hguard:∀ op,(eqGuard op t x y (.agg us.toArray) (.agg vs.toArray)).run P w=.ok () w:=fun op=>run_eqGuard_agg (P:=P) w op t x y us.toArray vs.toArray hg.2
     subst hop;cases neg
     ·have k1:=run_eql_struct (P:=P) w t us.toArray vs.toArray;rw[key] at k1;simp[hguard .eql,k1]
     ·have k1:=run_neq_struct (P:=P) w t us.toArray vs.toArray;rw[key] at k1;simp[hguard .neq,k1]
    ·cases ht
   ·cases ht
theorem f8 (h:Inv G N Sin w0 σ a w S m) {i:Operand} {i':SX} (hi:ai i=some i') {n j:Nat} (e:cr (ev G σ.f) i' n=some j):∃ k,a.eval i=.int k (j:Int)∧j<n:=by
  unfold cr at e;split at e
  ·rename_i k q hq;split at e
   ·rename_i hb;cases e;have:=db (h.operand hi).1 hq;exact⟨k,by rw[this]; congr 1; omega,by omega⟩
   ·cases e
  ·cases e
def Bd (v:Option Value) (d l:Nat):Prop:=(v=none∧l=d)∨∃ k,v=some (.int k (l:Int))
theorem ew (h:Inv G N Sin w0 σ a w S m) {x:Option Operand} {x':Option SX} (hx:cd x=some x') {d l:Nat} (e:bound (ev G σ.f) x' d=some l):Bd (x.map a.eval) d l∧(x'.isSome=x.isSome):=by
  cases x with
  | none =>
    cases hx;simp only[bound,yY] at e;exact⟨.inl ⟨rfl,e.symm⟩,rfl⟩
  | some y =>
    simp only[cd,yX] at hx;obtain⟨z,hz,rfl⟩:=hx;simp only[bound] at e;split at e
    ·rename_i k q hq;split at e
     ·rename_i h0;cases e;have:=db (h.operand hz).1 hq;exact⟨.inr ⟨k,by rw[Option.map_some,this]; congr 2; omega⟩,rfl⟩
     ·cases e
    ·cases e
theorem iP {isSlice:Bool} {len cap l k q:Nat} {lo hi mx:Option Value} (h1:Bd lo 0 l) (h2:Bd hi len k) (h3:Bd mx cap q) (h4:mx.isSome=true→hi.isSome=true) (e1:l≤k) (e2:k≤q) (e3:q≤cap) :
    (Instr.sliceBounds isSlice len cap lo hi mx).run P w=.ok (l,k,q) w:=by
  have b:∀ (x y:Nat) (t:IntKind) (c:BoundsCode),x≤y→(Instr.sliceBound (.int t (x:Int)) y c).run P w=.ok x w:=fun x y t c hxy=>by
    have:=run_sliceBound (P:=P) w t (x:Int) y c (by omega) (by omega)
    simpa using this
  rcases h1 with ⟨rfl,rfl⟩ | ⟨t1,rfl⟩ <;> rcases h2 with ⟨rfl,rfl⟩ | ⟨t2,rfl⟩ <;> rcases h3 with ⟨rfl,rfl⟩ | ⟨t3,rfl⟩ <;>
    first
      | (simp at h4; done)
      | (simp[Instr.sliceBounds,b _ _ _ _ e1,b _ _ _ _ e2,b _ _ _ _ e3]; done)
      | (simp[Instr.sliceBounds,b _ _ _ _ e1,b _ _ _ _ e2]; done)
      | (simp[Instr.sliceBounds,b _ _ _ _ e1]; done)
      | (simp[Instr.sliceBounds,b _ _ _ _ e2,b _ _ _ _ e3]; done)
      | (simp[Instr.sliceBounds,b _ _ _ _ e2]; done)
      | (simp[Instr.sliceBounds]; done)
theorem vq (t:TypeId) (x:Operand) (x':SX) (f:Nat) (ho:o.op=.field t x f) (hx:ai x=some x') {fs:Array Field} (ht:P.underlying t=some (.struct fs)) {fd:Field} (hf:fs[f]?=some fd) {kd:Kd} (hk:bu P fd.type=some kd)
    (h:Inv G N Sin w0 σ a w S m) (hd:∀ t,o.dst=some t→t<N∧w0.fx t=none) {cs:List C} (hc:bT (ev G σ.f x')=some cs) {y:W} (hy:cC cs fd.offset kd=some y) (hK:K (σ.put o.dst (.w y,σ.h,σ.u))):o.wp P a w (Nx G N Sin w0 K) Q:=by
  have h1:=h.operand hx;obtain⟨us,e1,h2,h3⟩:=gS h1.1 hc;obtain⟨v,hr,hv,hi⟩:=ru (P:=P) h2 hy hk;refine bw h hd (x:=.w y) ?_ hv (fun j hj=>h1.2 j (h3 ▸ hi j hj)) hK;simp only[execOp,ho,e1];refine aL ?_;simp[Instr.field,run_underlying ht,hf,asAgg,hr]
theorem dq {e:TypeId} {s b:Nat} {z:D} (h:cW P e=some (s,b,z)):∃ i zv,P.info? e=some i∧i.size=s∧i.bytes=b∧i.zero=some zv∧0<s∧z.cells.length=s∧(∀ S w,ab (Reads S w) zv.cells.toList z.cells):=by
  unfold cW at h;split at h
  ·rename_i i hk hi;split at h
   ·rename_i zv hz;simp only[yX,Prod.mk.injEq] at h;obtain⟨d,hd,rfl,rfl,h3⟩:=h;subst h3;have hone:d.cells=[d]:=(ep (S:=fun _ _=>False) (w:=default) hd).cellsOf;refine⟨i,zv,hi,?_,rfl,hz,by omega,by rw[hone]; rfl,fun S w=>?_⟩
    ·unfold bu at hk;rw[hi] at hk;split at hk
     ·cases hk
     ·cases hk
     ·rename_i e1 _; cases e1; split at hk
      ·assumption
      ·cases hk
     ·cases hk
    ·rw[hone];have:zv.cells=#[zv]:=by
       unfold dt at hd;split at hd <;> first | rfl | cases hd
     rw[this];exact .cons (ep hd) .nil
   ·cases h
  ·rename_i n i hk hi;split at h
   ·rename_i zv hz;split at h
    ·rename_i ds hds;split at h
     ·rename_i hn;simp only[yY,Prod.mk.injEq] at h;obtain⟨rfl,rfl,rfl⟩:=h;refine⟨i,zv,hi,?_,rfl,hz,hn.1,hn.2,fun S w=>c7 (fun _ _=>ep) hds⟩;unfold bu at hk;rw[hi] at hk;split at hk
      ·rename_i e1 _; cases e1; cases hk; rfl
      ·rename_i e1 _; cases e1; cases hk; rfl
      ·split at hk <;> cases hk
      ·cases hk
     ·cases h
    ·cases h
   ·cases h
  ·cases h
theorem dD {t e:TypeId} {s b:Nat} {z:D} (h:bU P t=some (e,s,b,z)):P.underlying t=some (.slice e)∧cW P e=some (s,b,z):=by
  unfold bU at h;split at h
  ·rename_i e' he;simp only[yX,Prod.mk.injEq] at h;obtain⟨⟨s',b',z'⟩,h1,rfl,rfl,rfl,rfl⟩:=h;exact⟨he,h1⟩
  ·cases h
theorem fL {e:TypeId} {s b:Nat} {z:D} (h:cW P e=some (s,b,z)):(sizeOf e).run P w=.ok s w:=by
  obtain⟨i,_,h1,h2,_⟩:=dq h;simp[sizeOf,typeInfo,h1,h2]
theorem uS (t e:TypeId) (n:Nat) (ht:P.underlying t=some (.array n e)) {s b:Nat} {z:D} (he:cW P e=some (s,b,z)) {kd:Kd} (hk:bu P e=some kd) (x i:Operand) (x' i':SX) (ho:o.op=.index t x i) (hx:ai x=some x') (hi:ai i=some i')
    (h:Inv G N Sin w0 σ a w S m) (hd:∀ t,o.dst=some t→t<N∧w0.fx t=none) {cs:List C} (hc:bT (ev G σ.f x')=some cs) {j:Nat} (hj:cr (ev G σ.f) i' n=some j) {y:W} (hy:cC cs (j*s) kd=some y) (hK:K (σ.put o.dst (.w y,σ.h,σ.u))):o.wp P a w (Nx G N Sin w0 K) Q:=by
  have h1:=h.operand hx;obtain⟨us,e1,h2,h3⟩:=gS h1.1 hc;obtain⟨k,e2,hlt⟩:=f8 h hi hj;obtain⟨v,hr,hv,hids⟩:=ru (P:=P) h2 hy hk;refine bw h hd (x:=.w y) ?_ hv (fun j hj=>h1.2 j (h3 ▸ hids j hj)) hK;simp only[execOp,ho,e1,e2];refine aL ?_;have h0:(0:Int)≤(j:Int)∧(j:Int)<(n:Int):=by omega
  simp[Instr.index,run_underlying ht,asIntOf,hlt,fL he,hr]
theorem uT (t:TypeId) (ht:P.underlying t=some .string) (x i:Operand) (x' i':SX) (ho:o.op=.index t x i) (hx:ai x=some x') (hi:ai i=some i')
    (h:Inv G N Sin w0 σ a w S m) (hd:∀ t,o.dst=some t→t<N∧w0.fx t=none) {s:ByteArray} (hs:ev G σ.f x'=.w (.c (.d (.str s)))) {j:Nat} (hj:cr (ev G σ.f) i' s.size=some j) {b:UInt8} (hb:s.data.toList[j]?=some b) (hK:K (σ.put o.dst (vd (bD b),σ.h,σ.u))):o.wp P a w (Nx G N Sin w0 K) Q:=by
  have h1:=(h.operand hx).1;rw[hs] at h1;obtain⟨k,e2,hlt⟩:=f8 h hi hj;refine bV h hd (v:=.int .u8 (b.toNat:Int)) ?_ (.int _ _) hK;simp only[execOp,ho,eD h1,e2];refine aL ?_;rw[run_index_string w t s k j ht,dif_pos (by omega)];have hb':s[(j:Int).toNat]'(by omega)=b:=by
    obtain⟨g1,g2⟩:=y6.1 hb;rw[← g2];simp only[Int.toNat_natCast];rfl
  rw[hb']
theorem uC (t:TypeId) (ht:P.underlying t=some .string) (x:Operand) (lo hi:Option Operand) (x':SX) (lo' hi':Option SX) (ho:o.op=.slice t x lo hi none) (hx:ai x=some x') (hlo:cd lo=some lo') (hhi:cd hi=some hi')
    (h:Inv G N Sin w0 σ a w S m) (hd:∀ t,o.dst=some t→t<N∧w0.fx t=none) {s:ByteArray} (hs:ev G σ.f x'=.w (.c (.d (.str s)))) {l k:Nat} (hl:bound (ev G σ.f) lo' 0=some l) (hk:bound (ev G σ.f) hi' s.size=some k) (h1:l≤k) (h2:k≤s.size)
    (hK:K (σ.put o.dst (vd (.str (s.extract l k)),σ.h,σ.u))):o.wp P a w (Nx G N Sin w0 K) Q:=by
  have hv:=(h.operand hx).1;rw[hs] at hv;refine bV h hd (v:=.string (s.extract l k)) ?_ (.str _) hK;simp only[execOp,ho,eD hv];refine aL ?_;rw[run_sliceAt_string w t _ _ _ _ ht];have:=iP (P:=P) (w:=w) (isSlice:=false) (ew h hlo hl).1 (ew h hhi hk).1 (show Bd (none:Option Value) s.size s.size from .inl ⟨rfl,rfl⟩) (fun h=>by cases h) h1 h2 (y8 _);simp[Instr.slice,run_underlying ht,this]
theorem uU (t:TypeId) (n:Nat) (e:TypeId) (ht:P.underlying t=some (.array n e)) (x:Operand) (c:Call) (ho:o.op=.call c) (hc:c.callee=.builtin .len) (hts:c.argTypes.toList=[t]) (hargs:c.args.toList=[x])
    (h:Inv G N Sin w0 σ a w S m) (hd:∀ t,o.dst=some t→t<N∧w0.fx t=none) (hK:K (σ.put o.dst (vd (.int .i64 n),σ.h,σ.u))):o.wp P a w (Nx G N Sin w0 K) Q:=by
  have e1:c.argTypes=#[t]:=by apply Array.ext'; simpa using hts
  have e2:c.args=#[x]:=by apply Array.ext'; simpa using hargs
  refine bV h hd (v:=.int .i64 n) ?_ (.int _ _) hK;simp only[execOp,ho,resolve,hc,invoke,builtin,e1,e2];simp[Builtin.len_,run_underlying ht,goInt]
theorem uV (t:TypeId) (ht:P.underlying t=some .string) (x:Operand) (x':SX) (c:Call) (ho:o.op=.call c) (hc:c.callee=.builtin .len) (hts:c.argTypes.toList=[t]) (hargs:c.args.toList=[x]) (hx:ai x=some x')
    (h:Inv G N Sin w0 σ a w S m) (hd:∀ t,o.dst=some t→t<N∧w0.fx t=none) {s:ByteArray} (hs:ev G σ.f x'=.w (.c (.d (.str s)))) (hK:K (σ.put o.dst (vd (.int .i64 s.size),σ.h,σ.u))):o.wp P a w (Nx G N Sin w0 K) Q:=by
  have e1:c.argTypes=#[t]:=by apply Array.ext'; simpa using hts
  have e2:c.args=#[x]:=by apply Array.ext'; simpa using hargs
  have hv:=(h.operand hx).1;rw[hs] at hv;refine bV h hd (v:=.int .i64 s.size) ?_ (.int _ _) hK;simp only[execOp,ho,resolve,hc,invoke,builtin,e1,e2];simp[Builtin.len_,run_underlying ht,goInt,eD hv]
theorem oY {x:V} {v:Value} {n:Nat} (h:RV m S w v x) (hn:cM x=some n):∃ ad cap,v=.slice ad n cap:=by
  unfold cM at hn;split at hn
  ·cases hn;rcases Reads.row h with ⟨h1,rfl⟩ | ⟨ad,cap,sz,h1,_⟩
   ·exact⟨none,0,h1⟩
   ·exact⟨some ad,cap,h1⟩
  ·cases hn;obtain⟨ad,h⟩:=h;exact⟨ad,0,h⟩
  ·rename_i id sz off n';cases hn;have hv':aC m w v id sz off n:=h;unfold aC at hv';split at hv'
   ·obtain⟨⟨ad,h1⟩,_,rfl⟩:=hv'; exact⟨ad,0,h1⟩
   ·obtain⟨_,ad,cap,_,_,h1,_⟩:=hv'; exact⟨some ad,cap,h1⟩
  ·cases hn
theorem xc (t e:TypeId) (ht:P.underlying t=some (.slice e)) (x:Operand) (x':SX) (c:Call) (ho:o.op=.call c) (hc:c.callee=.builtin .len) (hts:c.argTypes.toList=[t]) (hargs:c.args.toList=[x]) (hx:ai x=some x')
    (h:Inv G N Sin w0 σ a w S m) (hd:∀ t,o.dst=some t→t<N∧w0.fx t=none) {n:Nat} (hn:cM (ev G σ.f x')=some n) (hK:K (σ.put o.dst (vd (.int .i64 n),σ.h,σ.u))):o.wp P a w (Nx G N Sin w0 K) Q:=by
  have e1:c.argTypes=#[t]:=by apply Array.ext'; simpa using hts
  have e2:c.args=#[x]:=by apply Array.ext'; simpa using hargs
  obtain⟨ad,cap,hval⟩:=oY (h.operand hx).1 hn;refine bV h hd (v:=.int .i64 n) ?_ (.int _ _) hK;simp only[execOp,ho,resolve,hc,invoke,builtin,e1,e2];simp[Builtin.len_,run_underlying ht,goInt,hval]
end
section
variable {P:Program} {G:au} {N:Nat} {Sin:ae} {w0:Gh} {σ:St} {a:Act} {w:World} {S:ae} {m:Mp} {o:Oper} {K:St→Prop} {Q:Exit→Act→World→Prop}
theorem bX (b o n:Nat):(⟨b,o,none⟩:Addr).add n=⟨b,o+n,none⟩:=by
  unfold Addr.add; split <;> simp_all
theorem bn.from {ad:Addr} {cs:List D} (h:bn S w ad cs) (n:Nat):bn S w (ad.add n) (cs.drop n):=by
  intro j hj;rw[zz] at hj;obtain⟨v,h1,h2,h3⟩:=h (n+j) (by omega);have hs:=cell_spot h2;obtain⟨b,off,sp⟩:=ad;simp only at hs;subst hs;rw[bX];simp only[Nat.add_assoc];exact⟨v,h1,h2,by rw[List.getElem_drop]; exact h3⟩
theorem bn.take {ad:Addr} {cs:List D} (h:bn S w ad cs) (n:Nat):bn S w ad (cs.take n):=by
  intro j hj;rw[zg] at hj;obtain⟨v,h1,h2,h3⟩:=h j (by omega);exact⟨v,h1,h2,by rw[zI]; exact h3⟩
theorem bB.from {ad:Addr} {sz:Nat} {es:List D} (h:bB S w ad sz es) (hsz:0<sz) (n:Nat):bB S w (ad.add (n*sz)) sz (es.drop n):=by
  intro i hi;rw[zz] at hi;obtain⟨h1,h2⟩:=h (n+i) (by omega);obtain⟨v,_,hc,_⟩:=h2 0 (by omega);have hs:=cell_spot hc;obtain⟨b,off,sp⟩:=ad;simp only at hs;subst hs;rw[bX];simp only[List.getElem_drop];refine⟨h1,?_⟩;have e:off+n*sz+i*sz=off+(n+i)*sz:=by rw[zm,Nat.add_assoc]
  simp only[e];exact h2
theorem bB.take {ad:Addr} {sz:Nat} {es:List D} (h:bB S w ad sz es) (n:Nat):bB S w ad sz (es.take n):=by
  intro i hi;rw[zg] at hi;rw[zI];exact h i (by omega)
theorem ez {sz:Nat} {es:List D} (h:bM sz es=true):∀ e∈es,e.cells.length=sz:=by
  unfold bM at h;rw[zf] at h;intro e he
  simpa using h e he
theorem bB.size {ad:Addr} {sz sz':Nat} {es:List D} (h:bB S w ad sz es) (k:∀ e∈es,e.cells.length=sz'):bB S w ad sz' es:=by
  intro i hi;obtain⟨h1,h2⟩:=h i hi;have:=k es[i] (zx hi);obtain rfl:sz=sz':=by omega
  exact⟨h1,h2⟩
theorem uz (t:TypeId) (x:Operand) (x':SX) (f:Nat) (ho:o.op=.fieldAddr t x f) (hx:ai x=some x') {fs:Array Field} (ht:P.underlying t=some (.struct fs)) {fd:Field} (hf:fs[f]?=some fd) {i:TypeInfo} (hi:P.info? fd.type=some i) (hsz:i.size≠0)
    (h:Inv G N Sin w0 σ a w S m) (hd:∀ t,o.dst=some t→t<N∧w0.fx t=none) {c:C} (hc:fB fd.offset (ev G σ.f x')=some c) (hK:K (σ.put o.dst (.w (.c c),σ.h,σ.u))):o.wp P a w (Nx G N Sin w0 K) Q:=by
  have h1:=h.operand hx;have run:∀ ad:Addr,a.eval x=.pointer (some ad)→(execOp a.eval o).run P w=.ok (.value (.pointer (some (ad.add fd.offset)))) w:=fun ad e=>by
    simp only[execOp,ho,e];refine aL ?_;simp[Instr.fieldAt,run_underlying ht,hf,Instr.sureAddr,fieldPlace,sizeOf,typeInfo,hi,hsz]
  unfold fB at hc;split at hc
  ·rename_i id sz q off e;cases hc;rw[e] at h1;obtain⟨⟨b,hm,hv⟩,hids⟩:=h1;refine bw h hd (run _ hv) (x:=.w (.c (.ptr id sz q (off+fd.offset)))) ⟨b,hm,?_⟩ hids hK;rw[bX,Nat.add_assoc]
  ·rename_i cs e;cases hc;rw[e] at h1;obtain⟨⟨ad,hv,hcs⟩,_⟩:=h1;exact bw h hd (run _ hv) (x:=.w (.c (.rp (cs.drop fd.offset)))) ⟨_,rfl,hcs.from _⟩ (fun i hi=>by cases hi) hK
  ·cases hc
theorem kJ {t e:TypeId} {s b:Nat} {z:D} (ht:bU P t=some (e,s,b,z)) (ad:Addr) (n cap:Nat) (k:IntKind) (j:Nat) (hj:j<n) :
    (Instr.indexAt t (.slice (some ad) n cap) (.int k (j:Int))).run P w=.ok (.pointer (some (ad.add (j*s)))) w:=by
  obtain⟨hu,he⟩:=dD ht;simp[Instr.indexAt,run_underlying hu,asIntOf,hj,fL he]
theorem vt (t e:TypeId) {s b:Nat} {z:D} (ht:bU P t=some (e,s,b,z)) (x i:Operand) (x' i':SX) (ho:o.op=.indexAddr t x i) (hx:ai x=some x') (hi:ai i=some i')
    (h:Inv G N Sin w0 σ a w S m) (hd:∀ t,o.dst=some t→t<N∧w0.fx t=none) {r:R} (hr:ef (ev G σ.f) σ.h σ.u (o.dst.getD 0) (.idxSl s x' i')=some r) (hK:K (σ.put o.dst r)):o.wp P a w (Nx G N Sin w0 K) Q:=by
  have h1:=h.operand hx;have hpos:0<s:=by obtain⟨_,_,_,_,_,_,h5,_⟩:=dq (dD ht).2; exact h5
  simp only[ef] at hr;split at hr
  ·rename_i es e1;split at hr
   ·rename_i j hj;obtain⟨k,e2,hlt⟩:=f8 h hi hj;split at hr
    ·rename_i el hel;split at hr
     ·rename_i hsz;cases hr;rw[e1] at h1;rcases Reads.row h1.1 with ⟨_,rfl⟩ | ⟨ad,cap,sz',hv,hcap,hmax,hrow⟩
      ·simp at hlt
      ·obtain⟨hlt',rfl⟩:=y6.1 hel;obtain⟨g1,g2⟩:=hrow j hlt;obtain rfl:sz'=s:=by omega
       obtain⟨v,_,hc,_⟩:=g2 0 (by omega);have hs:=cell_spot hc;obtain⟨bb,off,sp⟩:=ad;simp only at hs;subst hs;refine bw h hd (v:=.pointer (some ⟨bb,off+j*sz',none⟩)) ?_ (x:=.w (.c (.rp es[j].cells))) ⟨_,rfl,g2⟩ (fun i hi=>by cases hi) hK;simp only[execOp,ho,hv,e2];refine aL ?_;rw[kJ ht _ _ _ _ _ hlt,bX]
     ·cases hr
    ·cases hr
   ·cases hr
  ·rename_i id sz' off n e1;split at hr
   ·rename_i j hj;obtain⟨k,e2,hlt⟩:=f8 h hi hj;split at hr
    ·rename_i hs;subst hs;cases hr;rw[e1] at h1;obtain⟨hv,hids⟩:=h1;have hv':aC m w (a.eval x) id sz' off n:=hv;unfold aC at hv';split at hv'
     ·omega
     ·rename_i bb sz2 hm;obtain⟨rfl,ad,cap,ty,M,g1,g2,g3,g4,g5,g6⟩:=hv';have hids':∀ i∈(V.w (.c (.ptr id sz2 (off+j) 0))).ids,σ.u i=true:=hids
      refine bw h hd (v:=.pointer (some ⟨bb,(off+j)*sz2+0,none⟩)) ?_ (x:=.w (.c (.ptr id sz2 (off+j) 0))) ⟨bb,hm,rfl⟩ hids' hK;simp only[execOp,ho,g1,e2];refine aL ?_;rw[kJ ht _ _ _ _ _ hlt,g4 (by omega),bX,zm];rfl
    ·cases hr
   ·cases hr
  ·cases hr
theorem uD {t e:TypeId} {n:Nat} (hu:P.underlying t=some (.array n e)) {s b:Nat} {z:D} (he:cW P e=some (s,b,z)) (ad:Addr) (k:IntKind) (j:Nat) (hj:j<n) :
    (Instr.indexAt t (.pointer (some ad)) (.int k (j:Int))).run P w=.ok (.pointer (some (ad.add (j*s)))) w:=by
  simp[Instr.indexAt,run_underlying hu,asIntOf,hj,fL he,Instr.sureAddr]
theorem vu (t e:TypeId) (n:Nat) (hu:P.underlying t=some (.array n e)) {s b:Nat} {z:D} (he:cW P e=some (s,b,z)) (x i:Operand) (x' i':SX) (ho:o.op=.indexAddr t x i) (hx:ai x=some x') (hi:ai i=some i')
    (h:Inv G N Sin w0 σ a w S m) (hd:∀ t,o.dst=some t→t<N∧w0.fx t=none) {r:R} (hr:ef (ev G σ.f) σ.h σ.u (o.dst.getD 0) (.idxPa s n x' i')=some r) (hK:K (σ.put o.dst r)):o.wp P a w (Nx G N Sin w0 K) Q:=by
  have h1:=h.operand hx;have hpos:0<s:=by obtain⟨_,_,_,_,_,_,h5,_⟩:=dq he; exact h5
  simp only[ef] at hr;split at hr
  ·cases hr
  ·rename_i j hj;obtain⟨k,e2,hlt⟩:=f8 h hi hj;have run:∀ ad:Addr,a.eval x=.pointer (some ad)→(execOp a.eval o).run P w=.ok (.value (.pointer (some (ad.add (j*s))))) w:=fun ad e=>by
     simp only[execOp,ho,e,e2];exact aL (uD hu he ad k j hlt)
   split at hr
   ·rename_i id sz' e1;split at hr
    ·rename_i hs;subst hs;cases hr;rw[e1] at h1;obtain⟨⟨bb,hm,hv⟩,hids⟩:=h1;have hids':∀ i∈(V.w (.c (.ptr id sz' j 0))).ids,σ.u i=true:=hids
     refine bw h hd (run _ hv) (x:=.w (.c (.ptr id sz' j 0))) ⟨bb,hm,?_⟩ hids' hK;rw[bX];simp
    ·cases hr
   ·rename_i es e1;split at hr
    ·rename_i el hel;split at hr
     ·rename_i hsz;cases hr;rw[e1] at h1;obtain⟨⟨ad,sz',hv,hrow⟩,_⟩:=h1;obtain⟨hlt',rfl⟩:=y6.1 hel;obtain⟨g1,g2⟩:=hrow j hlt';obtain rfl:sz'=s:=by omega
      obtain⟨v,_,hc,_⟩:=g2 0 (by omega);have hs:=cell_spot hc;obtain⟨bb,off,sp⟩:=ad;simp only at hs;subst hs;have:=run _ hv;rw[bX] at this;exact bw h hd this (x:=.w (.c (.rp es[j].cells))) ⟨_,rfl,g2⟩ (fun i hi=>by cases hi) hK
     ·cases hr
    ·cases hr
   ·rename_i id sz' q off e1;cases hr;rw[e1] at h1;obtain⟨⟨bb,hm,hv⟩,hids⟩:=h1;have hids':∀ i∈(V.w (.c (.ptr id sz' q (off+j*s)))).ids,σ.u i=true:=hids
    refine bw h hd (run _ hv) (x:=.w (.c (.ptr id sz' q (off+j*s)))) ⟨bb,hm,?_⟩ hids' hK;rw[bX,Nat.add_assoc]
   ·rename_i cs e1;cases hr;rw[e1] at h1;obtain⟨⟨ad,hv,hcs⟩,_⟩:=h1;exact bw h hd (run _ hv) (x:=.w (.c (.rp ((cs.drop (j*s)).take s)))) ⟨_,rfl,(hcs.from _).take _⟩ (fun i hi=>by cases hi) hK
   ·cases hr
theorem kK {t e:TypeId} {s b:Nat} {z:D} (ht:bU P t=some (e,s,b,z)) (ad:Option Addr) (n cap:Nat) {lo hi mx:Option Value} {l k q:Nat} (h1:Bd lo 0 l) (h2:Bd hi n k) (h3:Bd mx cap q) (h4:mx.isSome=true→hi.isSome=true) (e1:l≤k) (e2:k≤q) (e3:q≤cap) :
    (Instr.sliceAt t (.slice ad n cap) lo hi mx).run P w=.ok (.slice (if q=l then ad else ad.map (·.add (l*s))) (k-l) (q-l)) w:=by
  obtain⟨hu,he⟩:=dD ht;have hb:=iP (P:=P) (w:=w) (isSlice:=true) h1 h2 h3 h4 e1 e2 e3;have:=fL (w:=w) he;simp[Instr.sliceAt,Instr.slice,run_underlying hu,hb,this]
theorem vw (t e:TypeId) {s b:Nat} {z:D} (ht:bU P t=some (e,s,b,z)) (x:Operand) (lo hi mx:Option Operand) (x':SX) (lo' hi' mx':Option SX) (ho:o.op=.slice t x lo hi mx) (hx:ai x=some x') (hlo:cd lo=some lo') (hhi:cd hi=some hi') (hmx:cd mx=some mx') (hmh:(mx'.isSome&&hi'.isNone)=false)
    (h:Inv G N Sin w0 σ a w S m) (hd:∀ t,o.dst=some t→t<N∧w0.fx t=none) {r:R} (hr:ef (ev G σ.f) σ.h σ.u (o.dst.getD 0) (.slice s x' lo' hi' mx')=some r) (hK:K (σ.put o.dst r)):o.wp P a w (Nx G N Sin w0 K) Q:=by
  have hv:=h.operand hx;have hpos:0<s:=by obtain⟨_,_,_,_,_,_,h5,_⟩:=dq (dD ht).2; exact h5
  simp only[ef] at hr;split at hr
  ·cases hr
  ·rename_i n hn;obtain⟨ad,cap,hval⟩:=oY hv.1 hn;split at hr
   ·rename_i l k hl hk;split at hr
    ·rename_i q hq;split at hr
     ·rename_i hle;simp only[yX] at hr;obtain⟨c,hc,rfl⟩:=hr;have b1:=ew h hlo hl;have b2:=ew h hhi hk;have b3:=ew h hmx hq;have run:n≤cap→l≤k→∃ q',k≤q'∧q'≤cap∧(execOp a.eval o).run P w=.ok (.value (.slice (if q'=l then ad else ad.map (·.add (l*s))) (k-l) (q'-l))) w:=by
        intro hnc hlk;have hmi:(mx.map a.eval).isSome=true→(hi.map a.eval).isSome=true:=by
          rw[Option.isSome_map,Option.isSome_map,← b3.2,← b2.2];intro g;rw[g] at hmh;cases hi' with
          | none=>simp at hmh
          | some _=>rfl
        by_cases hm0:(mx.map a.eval)=none
        ·refine⟨cap,by omega,y8 _,?_⟩;simp only[execOp,ho,hval];exact aL (kK ht ad n cap b1.1 b2.1 (.inl ⟨hm0,rfl⟩) hmi hlk (by omega) (y8 _))
        ·refine⟨q,hle.1,by omega,?_⟩;simp only[execOp,ho,hval];refine aL (kK ht ad n cap b1.1 b2.1 ?_ hmi hlk hle.1 (by omega));rcases b3.1 with ⟨g,_⟩ | g
         ·exact absurd g hm0
         ·exact .inr g
      unfold dv at hc;split at hc
      ·rename_i es e1;split at hc
       ·rename_i hb;cases hc;rw[e1] at hv hn;simp only[cM,yY] at hn;subst hn;rcases Reads.row hv.1 with ⟨g1,rfl⟩ | ⟨ad',cap',sz',g1,g2,g3,g4⟩
        ·rw[hval] at g1;cases g1;obtain⟨q',hq1,hq2,hrun⟩:=run (y8 _) hb.1;have hk0:k=0:=by simpa using hb.2.1
         subst hk0;obtain rfl:l=0:=by omega
         obtain rfl:q'=0:=by omega
         refine bV h hd (x:=.sl ((([]:List D).drop 0).take (0-0))) hrun ?_ hK;exact .nil
        ·rw[hval] at g1;cases g1;obtain⟨q',hq1,hq2,hrun⟩:=run g2 hb.1;have hrow:=g4.size (ez hb.2.2);refine bV h hd (x:=.sl ((es.drop l).take (k-l))) hrun ?_ hK;have hlen:((es.drop l).take (k-l)).length=k-l:=by rw[zg,zz]; omega
         have hr2:∃ ad2,(if q'=l then some ad' else (some ad').map (·.add (l*s)))=some ad2∧bB S w ad2 s ((es.drop l).take (k-l)):=by
           by_cases e:q'=l
           ·rw[if_pos e];have:k-l=0:=by omega
            rw[this];exact⟨ad',rfl,fun i hi=>by simp at hi⟩
           ·rw[if_neg e];exact⟨_,rfl,(hrow.from hpos l).take _⟩
         obtain⟨ad2,e2,hrow2⟩:=hr2;rw[e2];have:=Reads.of_row hrow2 (cap:=q'-l) (by rw[hlen]; omega) (by omega)
         rwa [hlen] at this
       ·cases hc
      ·rename_i e1;split at hc
       ·rename_i hb;cases hc;obtain⟨rfl,rfl⟩:=hb;rw[e1] at hv hn;simp only[cM,yY] at hn;subst hn;obtain⟨ad0,hv'⟩:∃ ad,a.eval x=.slice ad 0 0:=hv.1
        rw[hval] at hv';cases hv';obtain⟨q',hq1,hq2,hrun⟩:=run (y8 _) (y8 _);obtain rfl:q'=0:=by omega
        exact bw h hd hrun (x:=.w (.c .nil)) ⟨_,rfl⟩ (fun i hi=>by cases hi) hK
       ·cases hc
      ·rename_i id sz' off n' e1;split at hc
       ·rename_i hb;cases hc;obtain⟨hb1,hb2,rfl⟩:=hb;rw[e1] at hv hn;simp only[cM,yY] at hn;subst hn;obtain⟨hv1,hids⟩:=hv;have hids':∀ i∈(V.w (.c (.own id sz' (off+l) (k-l)))).ids,σ.u i=true:=hids
        have hv':aC m w (a.eval x) id sz' off n':=hv1;unfold aC at hv';split at hv'
        ·rename_i hm;obtain⟨⟨ad0,g1⟩,rfl,rfl⟩:=hv';rw[hval] at g1;cases g1;obtain⟨q',hq1,hq2,hrun⟩:=run (y8 _) hb1;obtain rfl:k=0:=by omega
         obtain rfl:l=0:=by omega
         obtain rfl:q'=0:=by omega
         refine bw h hd hrun (x:=.w (.c (.own id sz' (0+0) (0-0)))) ?_ hids' hK
         show aC m w _ id sz' _ _
         unfold aC;rw[hm];exact⟨⟨_,rfl⟩,rfl,rfl⟩
        ·rename_i bb sz2 hm;obtain⟨rfl,ad',cap',ty,M,g1,g2,g3,g4,g5,g6⟩:=hv';rw[hval] at g1;cases g1;obtain⟨q',hq1,hq2,hrun⟩:=run g2 hb1;refine bw h hd hrun (x:=.w (.c (.own id sz2 (off+l) (k-l)))) ?_ hids' hK
         show aC m w _ id sz2 _ _
         unfold aC;rw[hm];have g6':(off+l+(q'-l))*sz2≤M:=zy (zd _ (by omega)) g6;by_cases e:q'=l
         ·rw[if_pos e];exact⟨rfl,ad',q'-l,ty,M,rfl,by omega,by omega,fun hp=>by
            obtain⟨rfl,rfl⟩:off=0∧l=0:=by omega
            exact g4 (.inr rfl),g5,g6'⟩
         ·rw[if_neg e];refine⟨rfl,_,q'-l,ty,M,rfl,by omega,by omega,fun hp=>?_,g5,g6'⟩;rw[g4 (by omega)]
          show (⟨bb,off*sz2,none⟩:Addr).add (l*sz2)=_
          rw[bX,zm]
       ·cases hc
      ·cases hc
     ·cases hr
    ·cases hr
   ·cases hr
theorem uE (t e:TypeId) (n:Nat) (hu:P.underlying t=some (.array n e)) {s b:Nat} {z:D} (he:cW P e=some (s,b,z)) (hn63:n≤maxLen) (x:Operand) (lo hi:Option Operand) (x':SX) (lo' hi':Option SX) (ho:o.op=.slice t x lo hi none) (hx:ai x=some x') (hlo:cd lo=some lo') (hhi:cd hi=some hi')
    (h:Inv G N Sin w0 σ a w S m) (hd:∀ t,o.dst=some t→t<N∧w0.fx t=none) {r:R} (hr:ef (ev G σ.f) σ.h σ.u (o.dst.getD 0) (.sliceArr s n x' lo' hi')=some r) (hK:K (σ.put o.dst r)):o.wp P a w (Nx G N Sin w0 K) Q:=by
  have h1:=h.operand hx;have hpos:0<s:=by obtain⟨_,_,_,_,_,_,h5,_⟩:=dq he; exact h5
  simp only[ef] at hr;split at hr
  ·rename_i l k hl hk;have b1:=ew h hlo hl;have b2:=ew h hhi hk;split at hr
   ·rename_i hb;have run:∀ ad:Addr,a.eval x=.pointer (some ad)→(execOp a.eval o).run P w=.ok (.value (.slice (some (if n=l then ad else ad.add (l*s))) (k-l) (n-l))) w:=fun ad e=>by
      simp only[execOp,ho,e];refine aL ?_;have hbd:=iP (P:=P) (w:=w) (isSlice:=false) b1.1 b2.1 (show Bd (none:Option Value) n n from .inl ⟨rfl,rfl⟩) (fun h=>by cases h) hb.1 hb.2 (y8 _);have hsz:=fL (w:=w) he;simp[Instr.sliceAt,run_underlying hu,Instr.sureAddr,hbd,hsz]
    split at hr
    ·rename_i id sz' e1;split at hr
     ·rename_i szr es hob;split at hr
      ·rename_i hc;obtain⟨rfl,rfl⟩:=hc;cases hr;rw[e1] at h1;obtain⟨⟨bb,hm,hv⟩,hids⟩:=h1;have hids':∀ i∈(V.w (.c (.own id sz' l (k-l)))).ids,σ.u i=true:=hids
       have hobj:=(h.obj id _ hob).1;unfold aA at hobj;rw[hm] at hobj;obtain⟨_,_,_,cur,ty,fz,g4,_,g6,_⟩:=hobj;have g4:w.heap[bb]?=some (.cells cur ty fz):=g4;refine bw h hd (run _ hv) (x:=.w (.c (.own id sz' l (k-l)))) ?_ hids' hK
       show aC m w _ id sz' _ _
       unfold aC;rw[hm];refine⟨rfl,_,es.length-l,ty,cur.size,rfl,by omega,by omega,fun hp=>?_,by simp[World.shape?,g4],zy (zd _ (by omega)) g6⟩;by_cases e0:es.length=l
       ·rw[if_pos e0];obtain rfl:l=0:=by omega
        simp
       ·rw[if_neg e0,bX];simp
      ·cases hr
     ·cases hr
    ·rename_i es e1;split at hr
     ·rename_i hc;cases hr;rw[e1] at h1;obtain⟨⟨ad,sz',hv,hrow⟩,_⟩:=h1;have hrow:=hrow.size (ez hc.2);refine bV h hd (run _ hv) (x:=.sl ((es.drop l).take (k-l))) ?_ hK;have hlen:((es.drop l).take (k-l)).length=k-l:=by rw[zg,zz]; omega
      have hr2:∃ ad2,(if n=l then ad else ad.add (l*s))=ad2∧bB S w ad2 s ((es.drop l).take (k-l)):=by
        by_cases e:n=l
        ·rw[if_pos e];have:k-l=0:=by omega
         rw[this];exact⟨ad,rfl,fun i hi=>by simp at hi⟩
        ·rw[if_neg e];exact⟨_,rfl,(hrow.from hpos l).take _⟩
      obtain⟨ad2,e2,hrow2⟩:=hr2;rw[e2];have:=Reads.of_row hrow2 (cap:=n-l) (by rw[hlen]; omega) (by omega)
      rwa [hlen] at this
     ·cases hr
    ·rename_i id sz' q off e1;split at hr
     ·rename_i cs hob;split at hr
      ·rename_i hc;obtain⟨rfl,rfl,hc3⟩:=hc;cases hr;rw[e1] at h1;obtain⟨⟨bb,hm,hv⟩,hids⟩:=h1;have hids':∀ i∈(V.w (.c (.own id 1 (q+off+l) (k-l)))).ids,σ.u i=true:=hids
       have hobj:=(h.obj id _ hob).1;unfold aA at hobj;rw[hm] at hobj;obtain⟨_,_,_,cur,ty,fz,g4,_,g6,_⟩:=hobj;have g4:w.heap[bb]?=some (.cells cur ty fz):=g4;refine bw h hd (run _ hv) (x:=.w (.c (.own id 1 (q+off+l) (k-l)))) ?_ hids' hK
       show aC m w _ id 1 _ _
       unfold aC;rw[hm];refine⟨rfl,_,n-l,ty,cur.size,rfl,by omega,by omega,fun hp=>?_,by simp[World.shape?,g4],by omega⟩;by_cases e0:n=l
       ·rw[if_pos e0];obtain⟨rfl,rfl,rfl⟩:q=0∧off=0∧l=0:=by omega
        simp
       ·rw[if_neg e0,bX];simp
      ·cases hr
     ·cases hr
    ·cases hr
   ·cases hr
  ·cases hr
end
section
variable {P:Program} {G:au} {N:Nat} {Sin:ae} {w0:Gh} {σ:St} {a:Act} {w:World} {S:ae} {m:Mp} {o:Oper} {K:St→Prop} {Q:Exit→Act→World→Prop}
theorem jo {t:TypeId} {n:Nat} (h:bu P t=some (.ag n)):(isAgg t).run P w=.ok true w∧(sizeOf t).run P w=.ok n w:=by
  unfold bu at h;split at h
  ·rename_i i fs hi hu;cases h;exact⟨by unfold isAgg; simp[run_underlying hu],by simp[sizeOf,typeInfo,hi]⟩
  ·rename_i i n' el hi hu;cases h;exact⟨by unfold isAgg; simp[run_underlying hu],by simp[sizeOf,typeInfo,hi]⟩
  ·split at h <;> cases h
  ·cases h
theorem oZ {t:TypeId} (h:bu P t=some .sc):(isAgg t).run P w=.ok false w∧(sizeOf t).run P w=.ok 1 w:=by
  unfold bu at h;split at h
  ·cases h
  ·cases h
  ·rename_i i d hn1 hn2 hi hu;split at h
   ·rename_i h1;refine⟨?_,by simp[sizeOf,typeInfo,hi,h1]⟩;unfold isAgg;simp only[Sem.run_bind,run_underlying hu,Result.andThen_ok];cases d <;> first | rfl | exact absurd rfl (hn1 _) | exact absurd rfl (hn2 _ _)
   ·cases h
  ·cases h
theorem vx {t:TypeId} {kd:Kd} (h:bu P t=some kd):(sizeOf t).run P w=.ok kd.size w:=by
  cases kd with
  | sc=>exact (oZ h).2
  | ag n=>exact (jo h).2
def valOf:Kd→List Value→Value
  | .sc,us=>us.headD undef
  | .ag _,us=>.agg us.toArray
theorem kL {t:TypeId} {kd:Kd} (ht:bu P t=some kd) (ad:Addr) (us:List Value) (hl:us.length=kd.size) (hc:∀ j v,us[j]?=some v→w.cell? (ad.add j)=some v):(loadVar t ad).run P w=.ok (valOf kd us) w:=by
  cases kd with
  | sc =>
    match us,hl with
    | [u],_ =>
      have:=hc 0 u rfl;rw[Addr.add_zero'] at this;simp[loadVar,(oZ (w:=w) ht).1,this,valOf]
  | ag n =>
    have hlen:us.length=n:=hl;have:=run_loadCells_list (P:=P) w ad us hc;rw[hlen] at this;simp[loadVar,(jo (w:=w) ht).1,(jo (w:=w) ht).2,this,valOf]
theorem vy {t:TypeId} {kd:Kd} (ht:bu P t=some kd) (x:Operand) (ho:o.op=.load t x) (h:Inv G N Sin w0 σ a w S m) (hd:∀ t,o.dst=some t→t<N∧w0.fx t=none) (ad:Addr) (hv:a.eval x=.pointer (some ad)) (us:List Value) (hl:us.length=kd.size) (hc:∀ j v,us[j]?=some v→w.cell? (ad.add j)=some v)
    {y:W} (hy:RW m S w (valOf kd us) y) (hids:∀ i∈y.ids,σ.u i=true) (hK:K (σ.put o.dst (.w y,σ.h,σ.u))):o.wp P a w (Nx G N Sin w0 K) Q:=by
  refine bw h hd (x:=.w y) ?_ hy hids hK;simp only[execOp,ho,hv];refine aL ?_;simp[Instr.loadAt,Instr.sureAddr,kL ht ad us hl hc]
theorem bn.list {ad:Addr} {cs:List D} (h:bn S w ad cs):∃ us:List Value,ab (Reads S w) us cs∧∀ j v,us[j]?=some v→w.cell? (ad.add j)=some v:=by
  have h1:∀ j,∃ v,∀ hj:j<cs.length,w.cell? ⟨ad.block,ad.off+j,ad.spot⟩=some v∧Reads S w v cs[j]:=by
    intro j;by_cases hj:j<cs.length
    ·obtain⟨v,_,h2,h3⟩:=h j hj;exact⟨v,fun _=>⟨h2,h3⟩⟩
    ·exact⟨undef,fun h=>absurd h hj⟩
  obtain⟨u,hu⟩:=Classical.axiomOfChoice h1;refine⟨(List.range cs.length).map u,.mk (by simp) fun i g1 g2=>by simpa using (hu i g2).2,fun j v hv=>?_⟩;have hj:j<cs.length:=by
    have:=(y6.1 hv).1
    simpa using this
  simp[hj] at hv;subst hv;have h2:=(hu j hj).1;have hs:=cell_spot h2;obtain⟨b,off,sp⟩:=ad;simp only at hs;subst hs;rw[bX];exact h2
theorem mG {cs:List C} {cur:Array Value} {sz:Nat} (h:aG m S w sz cur (.box cs)):ab (RC m S w) (cur.toList.take cs.length) cs:=by
  have hle:=h.1;refine .mk (by simp; omega) fun i g1 g2=>?_
  obtain⟨v,h1,h2⟩:=h.2 i g2;have:(cur.toList.take cs.length)[i]=v:=by
    rw[zI];have:=(y3.1 h1).2
    simpa using this
  rw[this];exact h2
theorem wk {s:Nat} {es:List D} {cur:Array Value} {sz:Nat} (h:aG m S w sz cur (.row s es)) {i:Nat} (hi:i<es.length):ab (Reads S w) ((cur.toList.drop (i*sz)).take sz) es[i].cells:=by
  have hle:i*sz+sz≤cur.size:=by
    have:=zd sz (show i+1≤es.length by omega);rw[zm] at this;have:=h.1;omega
  obtain⟨h0,h1⟩:=h.2 i hi;refine .mk (by simp[h0]; omega) fun j g1 g2=>?_
  obtain⟨v,h2,h3⟩:=h1 j g2;have:((cur.toList.drop (i*sz)).take sz)[j]=v:=by
    rw[zI,List.getElem_drop];have:=(y3.1 h2).2
    simpa using this
  rw[this];exact h3
theorem iW:∀ {es:List D} {us:List Value},us.length=es.length→(∀ i (h:i<es.length) (h2:i<us.length),es[i].cells.length=1∧∀ h3:0<es[i].cells.length,Reads S w us[i] es[i].cells[0])→ab (Reads S w) us (es.flatMap D.cells)
  | [],[],_,_=>.nil
  | [],_::_,h,_=>by simp at h
  | _::_,[],h,_=>by simp at h
  | e::es,u::us,hl,h=>by
    have h0:=h 0 (by simp) (by simp);simp only[List.getElem_cons_zero] at h0;have he:∃ x,e.cells=[x]:=by
      match e.cells,h0.1 with
      | [x],_=>exact⟨x,rfl⟩
    obtain⟨x,hx⟩:=he;rw[y4,hx];refine .cons ?_ (iW (by simpa using hl) fun i g1 g2=>?_)
    ·have:=h0.2 (by rw[hx]; simp)
     simpa [hx] using this
    ·have:=h (i+1) (by simpa using g1) (by simpa using g2)
     simpa using this
theorem d7 {kd:Kd} {v:Value} {y:W} (ad:Addr) (hv:v=.pointer (some ad)) (us:List Value) (hl:us.length=kd.size) (hc:∀ j u,us[j]?=some u→w.cell? (ad.add j)=some u) (hy:RW m S w (valOf kd us) y) (hids:∀ i∈y.ids,σ.u i=true) :
    ∃ (ad:Addr) (us:List Value),v=.pointer (some ad)∧us.length=kd.size∧(∀ j u,us[j]?=some u→w.cell? (ad.add j)=some u)∧RW m S w (valOf kd us) y∧∀ i∈y.ids,σ.u i=true:=⟨ad,us,hv,hl,hc,hy,hids⟩
theorem tl {vv:Value} {cs:List D} {ad:Addr} {kd:Kd} {y:W} (hv:vv=.pointer (some ad)) (hcs:bn S w ad cs)
    (hy:(match kd with | .sc=>(cs[0]?).map fun x=>W.c (C.d x) | .ag n=>if n≤cs.length then some (W.c (C.d (D.agg (cs.take n)))) else none)=some y) :
    ∃ (ad:Addr) (us:List Value),vv=.pointer (some ad)∧us.length=kd.size∧(∀ j u,us[j]?=some u→w.cell? (ad.add j)=some u)∧RW m S w (valOf kd us) y∧∀ i∈y.ids,σ.u i=true:=by
  obtain⟨us,hall,hcell⟩:=hcs.list;split at hy
  ·simp only[yX] at hy;obtain⟨c,hc,rfl⟩:=hy;obtain⟨v,hv2,hr⟩:=hall.get? hc;refine d7 _ hv [v] rfl (fun j u hj=>?_) (y:=.c (.d c)) (Reads.rw hr) (fun j hj=>by cases hj)
   match j,hj with
   | 0,hj=>simp at hj; subst hj; exact hcell 0 _ hv2
  ·rename_i n;split at hy
   ·rename_i hle;cases hy;refine d7 _ hv (us.take n) ?_ (fun j u hj=>?_) (y:=.c (.d (.agg (cs.take n)))) ⟨_,rfl,hall.take n⟩ (fun j hj=>by cases hj)
    ·rw[(hall.take n).length]; simp[Kd.size]; omega
    ·rw[zp] at hj;split at hj
     ·exact hcell j u hj
     ·cases hj
   ·cases hy
theorem tm (h:Inv G N Sin w0 σ a w S m) {vv:Value} {X:V} (h1:RV m S w vv X) {kd:Kd} {y:W} (hy:aM σ.h kd X=some y) :
    ∃ (ad:Addr) (us:List Value),vv=.pointer (some ad)∧us.length=kd.size∧(∀ j u,us[j]?=some u→w.cell? (ad.add j)=some u)∧RW m S w (valOf kd us) y∧∀ i∈y.ids,σ.u i=true:=by
  unfold aM at hy;split at hy
  ·rename_i id sz i off;obtain⟨b,hm,hv⟩:=h1;split at hy
   ·rename_i cs hob;have hobj:=h.obj id _ hob;have hk:=hobj.1;unfold aA at hk;rw[hm] at hk;obtain⟨hsz,_,_,cur,ty,fz,g4,_,g6⟩:=hk;simp only[Ob.sz] at hsz;subst hsz;have hall:=mG g6;have hcell:∀ j v,(cur.toList.take cs.length)[i+off+j]?=some v→w.cell? ((⟨b,i*1+off,none⟩:Addr).add j)=some v:=fun j v hj=>by
      rw[bX,cell_of_row w b _ cur ty fz g4];rw[zp] at hj;split at hj
      ·simpa using hj
      ·cases hj
    split at hy
    ·simp only[yX] at hy;obtain⟨c,hc,rfl⟩:=hy;obtain⟨v,hv2,hr⟩:=hall.get? hc;refine d7 _ hv [v] rfl (fun j u hj=>?_) (y:=.c c) (RC.rw hr) (fun j hj=>hobj.2.2 j (y0.2 ⟨c,zK hc,hj⟩))
     match j,hj with
     | 0,hj=>simp at hj; subst hj; exact hcell 0 _ hv2
    ·rename_i n;split at hy
     ·rename_i hle;cases hy;have hs:=(hall.drop (i+off)).take n;have hmk:=fR hs;refine d7 _ hv (((cur.toList.take cs.length).drop (i+off)).take n) ?_ (fun j u hj=>?_) hmk.1 (fun j hj=>?_)
      ·have:=hs.length;rw[this];simp[Kd.size]; omega
      ·refine hcell j u ?_;rw[zp] at hj;split at hj
       ·rwa [zW] at hj
       ·cases hj
      ·obtain⟨c,hc,hj'⟩:=y0.1 (hmk.2 j hj);exact hobj.2.2 j (y0.2 ⟨c,zU (zH hc),hj'⟩)
     ·cases hy
   ·rename_i szr es hob;have hobj:=h.obj id _ hob;have hk:=hobj.1;unfold aA at hk;rw[hm] at hk;obtain⟨hsz,_,_,cur,ty,fz,g4,_,g6⟩:=hk;split at hy
    ·rename_i e he;obtain⟨hlt,rfl⟩:=y6.1 he;have hall:=wk g6 hlt;have hcell:∀ j v,((cur.toList.drop (i*sz)).take sz)[off+j]?=some v→w.cell? ((⟨b,i*sz+off,none⟩:Addr).add j)=some v:=fun j v hj=>by
       rw[bX,cell_of_row w b _ cur ty fz g4];rw[zp] at hj;split at hj
       ·rw[zW] at hj; rw[Nat.add_assoc]; simpa using hj
       ·cases hj
     split at hy
     ·simp only[yX] at hy;obtain⟨c,hc,rfl⟩:=hy;obtain⟨v,hv2,hr⟩:=hall.get? hc;refine d7 _ hv [v] rfl (fun j u hj=>?_) (y:=.c (.d c)) (Reads.rw hr) (fun j hj=>by cases hj)
      match j,hj with
      | 0,hj=>simp at hj; subst hj; exact hcell 0 _ hv2
     ·rename_i n;split at hy
      ·rename_i hle;cases hy;have hs:=(hall.drop off).take n;refine d7 _ hv ((((cur.toList.drop (i*sz)).take sz).drop off).take n) ?_ (fun j u hj=>?_) (y:=.c (.d (.agg ((es[i].cells.drop off).take n)))) ⟨_,rfl,hs⟩ (fun j hj=>by cases hj)
       ·rw[hs.length];simp[Kd.size]; omega
       ·refine hcell j u ?_;rw[zp] at hj;split at hj
        ·rwa [zW] at hj
        ·cases hj
      ·cases hy
    ·cases hy
   ·cases hy
  ·rename_i id sz;obtain⟨b,hm,hv⟩:=h1;split at hy
   ·rename_i szr es hob;split at hy
    ·rename_i hc;obtain⟨rfl,rfl⟩:=hc;cases hy;have hobj:=h.obj id _ hob;have hk:=hobj.1;unfold aA at hk;rw[hm] at hk;obtain⟨hsz,_,_,cur,ty,fz,g4,_,g6⟩:=hk;simp only[Ob.sz] at hsz;subst hsz;have hle:=g6.1;have hall:ab (Reads S w) (cur.toList.take es.length) (es.flatMap D.cells):=by
       refine iW (by simp; omega) fun i q1 q2=>?_
       obtain⟨k1,k2⟩:=g6.2 i q1;refine⟨k1,fun q3=>?_⟩;obtain⟨v,k3,k4⟩:=k2 0 q3;have:(cur.toList.take es.length)[i]=v:=by
         rw[zI];have:=(y3.1 k3).2
         simpa using this
       rw[this];exact k4
     refine d7 _ hv (cur.toList.take es.length) (by simp[Kd.size]; omega) (fun j u hj=>?_) (y:=.c (.d (.agg (es.flatMap D.cells)))) ⟨_,rfl,hall⟩ (fun j hj=>by cases hj);rw[bX,cell_of_row w b _ cur ty fz g4];rw[zp] at hj;split at hj
     ·simpa using hj
     ·cases hj
    ·cases hy
   ·cases hy
  ·obtain⟨ad,hv,hcs⟩:=h1;exact tl hv hcs hy
  ·rename_i es;obtain⟨ad,sz,hv,hrow⟩:=h1;split at hy
   ·rename_i hc;obtain⟨hc1,rfl⟩:=hc;cases hy;have hrow:=hrow.size (ez hc1);have h2:∀ i,∃ v,∀ hi:i<es.length,w.cell? ⟨ad.block,ad.off+i,ad.spot⟩=some v∧es[i].cells.length=1∧∀ h3:0<es[i].cells.length,Reads S w v es[i].cells[0]:=by
      intro i;by_cases hi:i<es.length
      ·obtain⟨q1,q2⟩:=hrow i hi;obtain⟨v,_,q3,q4⟩:=q2 0 (by omega);exact⟨v,fun _=>⟨by simpa using q3,q1,fun _=>q4⟩⟩
      ·exact⟨undef,fun h=>absurd h hi⟩
    obtain⟨u,hu⟩:=Classical.axiomOfChoice h2;refine d7 _ hv ((List.range es.length).map u) (by simp[Kd.size]) (fun j v hj=>?_) (y:=.c (.d (.agg (es.flatMap D.cells)))) ⟨_,rfl,?_⟩ (fun j hj=>by cases hj)
    ·have hjl:j<es.length:=by
       have:=(y6.1 hj).1
       simpa using this
     simp[hjl] at hj;subst hj;have q:=(hu j hjl).1;have hs:=cell_spot q;obtain⟨b,off,sp⟩:=ad;simp only at hs;subst hs;rw[bX];exact q
    ·refine iW (by simp) fun i q1 q2=>?_
     have:=hu i q1;exact⟨this.2.1,fun h3=>by simpa using this.2.2 h3⟩
   ·cases hy
  ·obtain⟨ad,hv,hcs⟩:=Reads.cellsAt h1;exact tl hv hcs hy
  ·cases hy
theorem i9 {t:TypeId} {kd:Kd} (ht:bu P t=some kd) (x:Operand) (x':SX) (ho:o.op=.load t x) (hx:ai x=some x') (h:Inv G N Sin w0 σ a w S m) (hd:∀ t,o.dst=some t→t<N∧w0.fx t=none)
    {y:W} (hy:aM σ.h kd (ev G σ.f x')=some y) (hK:K (σ.put o.dst (.w y,σ.h,σ.u))):o.wp P a w (Nx G N Sin w0 K) Q:=by
  obtain⟨ad,us,h1,h2,h3,h4,h5⟩:=tm h (h.operand hx).1 hy;exact vy ht x ho h hd ad h1 us h2 h3 h4 h5 hK
theorem aw.alloc (h:Inv G N Sin w0 σ a w S m) (ob:Obj):aw S w (w.alloc ob) :=
  eV (fun b i hs=>(h.sin b i hs).1) fun b hlt=>Below.heap_alloc w ob b hlt
theorem fb (h:Inv G N Sin w0 σ a w S m) (hd:∀ t,o.dst=some t→t<N∧w0.fx t=none) {id sz:Nat} {ob:Ob} {c:C} {v:Value} {cur:Array Value} {ty:TypeId} {fz:Nat×Nat} (hu:σ.u id=false) (hsz:ob.sz=sz) (hfz:bS cur fz)
    (hc:aG m S w sz cur ob) (hids:∀ j∈ob.ids,σ.u j=true) (hr:(execOp a.eval o).run P w=.ok (.value v) (w.alloc (.cells cur ty fz)))
    (hv:RC (upd m id (some (w.heap.size,sz))) S (w.alloc (.cells cur ty fz)) v c) (hci:c.ids=[id]) (hK:K (σ.put o.dst (.w (.c c),upd σ.h id (some ob),upd σ.u id true))) (hmp:ob.isMp=false:=by rfl):o.wp P a w (Nx G N Sin w0 K) Q :=
  bd (x:=.w (.c c)) (h.newOb hu hsz hfz hc hids hmp) hd hr (RC.rw hv) (fun i hi=>by
    have:i∈c.ids:=hi;rw[hci] at this;simp only[zj] at this;simp[upd,this]) hK
theorem o0 (h:Inv G N Sin w0 σ a w.drew S m) (hd:∀ t,o.dst=some t→t<N∧w0.fx t=none) {id sz:Nat} {ob:Ob} {c:C} {v:Value} {cur:Array Value} {ty:TypeId} {fz:Nat×Nat} (hu:σ.u id=false) (hsz:ob.sz=sz) (hfz:bS cur fz)
    (hc:aG m S w.drew sz cur ob) (hids:∀ j∈ob.ids,σ.u j=true) (hr:(execOp a.eval o).run P w=.ok (.value v) (w.drew.alloc (.cells cur ty fz)))
    (hv:RC (upd m id (some (w.heap.size,sz))) S (w.drew.alloc (.cells cur ty fz)) v c) (hci:c.ids=[id]) (hK:K (σ.put o.dst (.w (.c c),upd σ.h id (some ob),upd σ.u id true))) (hmp:ob.isMp=false:=by rfl):o.wp P a w (Nx G N Sin w0 K) Q :=
  bd (x:=.w (.c c)) (h.newOb hu hsz hfz hc hids hmp) hd hr (RC.rw hv) (fun i hi=>by
    have:i∈c.ids:=hi;rw[hci] at this;simp only[zj] at this;simp[upd,this]) hK
theorem dE (cur:Array Value):bS cur (0,0):=⟨y8 _,fun h=>by simp at h⟩
theorem cT {h:ah} {u:Nat→Bool} {dst:Nat} {ob:Ob} {c:C} {r:R} (e:a9 h u dst ob c=some r):u (8*dst)=false∧r=(.w (.c c),upd h (8*dst) (some ob),upd u (8*dst) true):=by
  unfold a9 at e;split at e
  ·cases e
  ·rename_i hu;cases e;exact⟨by simpa using hu,rfl⟩
theorem vz (w:World) (cur:Array Value) (ty:TypeId) (fz:Nat×Nat):(w.alloc (.cells cur ty fz)).shape? w.heap.size=some (ty,cur.size):=by
  unfold World.shape?;rw[heap_alloc_new]
theorem fN (w:World) (cur:Array Value) (ty:TypeId) (fz:Nat×Nat) (i:Nat):(w.alloc (.cells cur ty fz)).cell? ⟨w.heap.size,i,none⟩=cur[i]?:=by
  rw[cell_of_row _ _ i cur ty fz (heap_alloc_new w _)]
theorem g8 {id sz n cap:Nat} {cur:Array Value} {ty:TypeId} {fz:Nat×Nat} (hn:n≤cap) (hcap:cap≤maxLen) (hs:cap*sz≤cur.size) :
    RC (upd m id (some (w.heap.size,sz))) S (w.alloc (.cells cur ty fz)) (.slice (some ⟨w.heap.size,0,none⟩) n cap) (.own id sz 0 n):=by
  show aC _ _ _ _ _ _ _
  unfold aC;simp only[upd,if_true];exact⟨trivial,_,cap,ty,cur.size,rfl,hn,hcap,fun _=>by simp,vz _ _ _ _,by simpa using hs⟩
theorem mH {cs:List C} {us:List Value} {sz:Nat} (h:ab (RC m S w) us cs):aG m S w sz us.toArray (.box cs):=by
  refine⟨by simp[h.length],fun j hj=>?_⟩;have hj':j<us.length:=by rw[h.length]; exact hj
  exact⟨us[j],by simp[hj'],h.get j hj' hj⟩
theorem lv {cs:List D} {us:List Value} (h:ab (Reads S w) us cs) (s:Nat):aG m S w 1 us.toArray (.row s cs):=by
  refine⟨by simp[h.length],fun i hi=>?_⟩;have hi':i<us.length:=by rw[h.length]; exact hi
  have hr:=h.get i hi' hi;have hc:=hr.cellsOf;refine⟨by rw[hc]; rfl,fun j hj=>⟨us[i],?_,?_⟩⟩
  ·obtain rfl:j=0:=by rw[hc] at hj; simpa using hj
   simp[hi']
  ·obtain rfl:j=0:=by rw[hc] at hj; simpa using hj
   have:cs[i].cells[0]=cs[i]:=by simp[hc]
   rw[this];exact hr
theorem iF {l:List Value} {cs:List C} (h:ar da l=some cs):ab (RC m S w) l cs∧cs.flatMap C.ids=[]:=by
  refine⟨(c7 (R:=fun v c=>RC m S w v c∧c.ids=[]) (fun x y hxy=>⟨(gB hxy).1,(gB (m:=m) (S:=S) (w:=w) hxy).2.1⟩) h).weak fun _ _ _ _ h=>h.1,?_⟩;have:=c7 (R:=fun v c=>c.ids=[]) (fun x y hxy=>(gB (m:=m) (S:=S) (w:=w) hxy).2.1) h;clear h
  induction this with
  | nil=>rfl
  | cons h _ ih=>simp[h,ih]
theorem lw (t:TypeId) (ho:o.op=.alloc t) {i:TypeInfo} (hi:P.info? t=some i) {zv:Value} (hz:i.zero=some zv) {cs:List C} (hcs:ar da zv.cells.toList=some cs)
    (h:Inv G N Sin w0 σ a w S m) (hd:∀ t,o.dst=some t→t<N∧w0.fx t=none) {r:R} (hr:ef (ev G σ.f) σ.h σ.u (o.dst.getD 0) (.alloc cs)=some r) (hK:K (σ.put o.dst r)):o.wp P a w (Nx G N Sin w0 K) Q:=by
  obtain⟨hu,rfl⟩:=cT hr;have hc:=iF (m:=m) (S:=S) (w:=w) hcs;have hcell:=mH (sz:=1) hc.1;rw[zL] at hcell;refine fb (sz:=1) (ob:=.box cs) (c:=.ptr (8*o.dst.getD 0) 1 0 0) h hd hu rfl (dE _) hcell (fun j hj=>by simp only[Ob.ids,hc.2] at hj; cases hj) (v:=.pointer (some ⟨w.heap.size,0,none⟩)) (ty:=t) ?_ ⟨w.heap.size,by simp[upd],by simp⟩ rfl hK;simp only[execOp,ho];refine aL ?_;simp[Instr.alloc,zeroValue,typeInfo,hi,hz,newVar,newRow]
theorem uF (t:TypeId) (ho:o.op=.alloc t) {i:TypeInfo} (hi:P.info? t=some i) {zv:Value} (hz:i.zero=some zv) {es:List D} (hes:ar dt zv.cells.toList=some es)
    (h:Inv G N Sin w0 σ a w S m) (hd:∀ t,o.dst=some t→t<N∧w0.fx t=none) {r:R} (hr:ef (ev G σ.f) σ.h σ.u (o.dst.getD 0) (.allocArr es)=some r) (hK:K (σ.put o.dst r)):o.wp P a w (Nx G N Sin w0 K) Q:=by
  obtain⟨hu,rfl⟩:=cT hr;have hcell:=lv (m:=m) (c7 (R:=Reads S w) (fun x y hxy=>ep hxy) hes) 1;rw[zL] at hcell;refine fb (sz:=1) (ob:=.row 1 es) (c:=.pa (8*o.dst.getD 0) 1) h hd hu rfl (dE _) hcell (fun j hj=>by cases hj) (v:=.pointer (some ⟨w.heap.size,0,none⟩)) (ty:=t) ?_ ⟨w.heap.size,by simp[upd],rfl⟩ rfl hK;simp only[execOp,ho];refine aL ?_;simp[Instr.alloc,zeroValue,typeInfo,hi,hz,newVar,newRow]
theorem jp (t:TypeId) (x:Operand) (x':SX) (mode:Bx) (ho:o.op=.box t x) (hx:ai x=some x') (h:Inv G N Sin w0 σ a w S m) (hd:∀ t,o.dst=some t→t<N∧w0.fx t=none) {r:R} (hr:ef (ev G σ.f) σ.h σ.u (o.dst.getD 0) (.box mode x')=some r) (hK:K (σ.put o.dst r)):o.wp P a w (Nx G N Sin w0 K) Q:=by
  have h1:=h.operand hx;simp only[ef] at hr;split at hr
  ·cases hr
  ·rename_i y hy;obtain⟨hv,hxy⟩:=g7 h1.1 hy;have hids:∀ i∈y.ids,σ.u i=true:=fun i hi=>h1.2 i (by rw[hxy]; exact hi)
   have run:(execOp a.eval o).run P w=.ok (.value (.pointer (some ⟨w.heap.size,0,none⟩))) (w.alloc (.cells (a.eval x).cells t)):=by
     simp only[execOp,ho];exact aL (by simp[Instr.box,newVar,newRow])
   obtain⟨us,hus,hall,hi⟩:=gC hv;rw[hus] at run;split at hr
   ·obtain⟨hu,rfl⟩:=cT hr;exact fb (sz:=1) (ob:=.box (aO y)) (c:=.ptr (8*o.dst.getD 0) 1 0 0) h hd hu rfl (dE _) (mH hall) (fun j hj=>hids j (hi ▸ hj)) run ⟨w.heap.size,by simp[upd],by simp⟩ rfl hK
   ·split at hr
    ·rename_i cs;obtain⟨hu,rfl⟩:=cT hr;obtain⟨us',e1,hall'⟩:=hv;have:us'.toArray=us.toArray:=by rw[← hus,e1]; rfl
     rw[← this] at run;exact fb (sz:=1) (ob:=.row 1 cs) (c:=.pa (8*o.dst.getD 0) 1) h hd hu rfl (dE _) (lv hall' 1) (fun j hj=>by cases hj) run ⟨w.heap.size,by simp[upd],rfl⟩ rfl hK
    ·cases hr
   ·simp only[yX] at hr;obtain⟨cs,hcs,rfl⟩:=hr;have hall':=eY hcs hall;have k:=aw.alloc h (.cells us.toArray t);refine bd (h':=σ.h) (u':=σ.u) (h.newRo (.cells us.toArray t)) hd run (x:=.w (.c (.rp cs))) ⟨_,rfl,fun j hj=>?_⟩ (fun i hi=>by cases hi) hK;have hj':j<us.length:=by rw[hall'.length]; exact hj
    refine⟨us[j],.inr rfl,?_,((hall'.get j hj' hj).keep k).mono fun _ _ h=>.inl h⟩
    show (w.alloc _).cell? ⟨w.heap.size,0+j,none⟩=_
    rw[fN];simp[hj']
   ·split at hr
    ·rename_i cs;cases hr;obtain⟨us',e1,hall'⟩:=hv;have:us'.toArray=us.toArray:=by rw[← hus,e1]; rfl
     rw[← this] at run;have k:=aw.alloc h (.cells us'.toArray t);refine bd (h':=σ.h) (u':=σ.u) (h.newRo (.cells us'.toArray t)) hd run (x:=.w (.c (.ra cs))) ⟨_,1,rfl,fun i hi=>?_⟩ (fun i hi=>by cases hi) hK;have hi':i<us'.length:=by rw[hall'.length]; exact hi
     have hrd:=hall'.get i hi' hi;have hc:=hrd.cellsOf;refine⟨by rw[hc]; rfl,fun j hj=>?_⟩;obtain rfl:j=0:=by rw[hc] at hj; simpa using hj
     refine⟨us'[i],.inr rfl,?_,?_⟩
     ·show (w.alloc _).cell? ⟨w.heap.size,0+i*1+0,none⟩=_
      rw[fN];simp[hi']
     ·have:cs[i].cells[0]=cs[i]:=by simp[hc]
      rw[this];exact (hrd.keep k).mono fun _ _ h=>.inl h
    ·cases hr
theorem uW (x:Operand) (ho:o.op=.move x∨o.op=.assign x) (hx:ai x=some (.k (.c .nil))) (s:Nat) (h:Inv G N Sin w0 σ a w S m) (hd:∀ t,o.dst=some t→t<N∧w0.fx t=none) {r:R} (hr:ef (ev G σ.f) σ.h σ.u (o.dst.getD 0) (.nilOwn s)=some r) (hK:K (σ.put o.dst r)):o.wp P a w (Nx G N Sin w0 K) Q:=by
  obtain⟨hu,rfl⟩:=cT hr;obtain⟨ad,hv⟩:∃ ad,a.eval x=.slice ad 0 0:=(h.operand hx).1
  refine bd (h.newNil (sz:=s) hu) hd (v:=.slice ad 0 0) ?_ (x:=.w (.c (.own (8*o.dst.getD 0) s 0 0))) ?_ (fun i hi=>?_) hK
  ·unfold execOp;rcases ho with ho | ho <;> rw[ho] <;> simp[hv]
  ·show aC _ _ _ _ _ _ _
   unfold aC;simp only[upd,if_true];exact⟨⟨_,rfl⟩,trivial,trivial⟩
  ·have:i∈[8*o.dst.getD 0]:=hi;simp only[zj] at this;simp[upd,this]
theorem uA {z:Array Value} {n i:Nat} (h:i<n) (hz:0<z.size):(madeCells z n)[i]?=z[i%z.size]?:=by
  have hlt:i%z.size<z.size:=Nat.mod_lt _ hz;simp[madeCells,h,hlt]
theorem ux {i sz j:Nat} (h:j<sz):(i*sz+j)%sz=j:=by
  rw[Nat.add_comm,Nat.add_mul_mod_self_right,Nat.mod_eq_of_lt h]
theorem gD {e:TypeId} {s b:Nat} {z:D} {zv:Value} (hz:∀ S w,ab (Reads S w) zv.cells.toList z.cells) (hlen:z.cells.length=s) (hpos:0<s) (n c:Nat) (hn:n≤c) (s':Nat):aG m S w s (madeCells zv.cells (c*s)) (.row s' (List.replicate n z)):=by
  have hzs:zv.cells.size=s:=by have:=(hz S w).length; rw[← hlen,← this]; simp
  refine⟨by rw[size_madeCells,zG]; exact zd _ hn,fun i hi=>?_⟩;rw[zG] at hi;rw[List.getElem_replicate];refine⟨hlen,fun j hj=>?_⟩;have hj':j<s:=by omega
  have hj2:j<zv.cells.toList.length:=by simp; omega
  refine⟨zv.cells.toList[j],?_,(hz S w).get j hj2 hj⟩;have hlt:i*s+j<c*s:=by
    have:=zd s (show i+1≤c by omega);rw[zm] at this;omega
  rw[uA hlt (by omega),hzs,ux hj'];simp only[zN] at hj2;simp[hj2]
theorem wl (t e:TypeId) {own:Bool} {s b:Nat} {z:D} (ht:bU P t=some (e,s,b,z)) (l c:Operand) (l' c':SX) (ho:o.op=.makeSlice t l c) (hl:ai l=some l') (hc:ai c=some c') (h:Inv G N Sin w0 σ a w S m) (hd:∀ t,o.dst=some t→t<N∧w0.fx t=none)
    {r:R} (hr:ef (ev G σ.f) σ.h σ.u (o.dst.getD 0) (.make own s b z l' c')=some r) (hK:K (σ.put o.dst r)):o.wp P a w (Nx G N Sin w0 K) Q:=by
  obtain⟨hu0,he⟩:=dD ht;obtain⟨i,zv,hi,hs,hb,hz,hpos,hlen,hrd⟩:=dq he;simp only[ef] at hr;split at hr
  ·rename_i x y hx hy;split at hr
   ·rename_i hcond;have e1:=db (h.operand hl).1 hx;have e2:=db (h.operand hc).1 hy;have hbb:(i.bytes:Int)*y≤281474976710656:=by rw[hb,Int.mul_comm]; omega
    have run:=run_make (P:=P) w t e i zv hu0 hi hz .i64 .i64 x y hcond.1 hcond.2.1 hbb (by omega);rw[hs] at run;split at hr
    ·obtain⟨hu,rfl⟩:=cT hr;refine fb (sz:=s) (ob:=.row s (List.replicate x.toNat z)) (c:=.own (8*o.dst.getD 0) s 0 x.toNat) h hd hu rfl (dE _) (gD (e:=e) (b:=b) hrd hlen hpos x.toNat y.toNat (by omega) s) (fun j hj=>by cases hj) (v:=.slice (some ⟨w.heap.size,0,none⟩) x.toNat y.toNat) (ty:=e) ?_ (g8 (by omega) (by simp only[maxLen]; omega) (by rw[size_madeCells]; exact y8 _)) rfl hK;simp only[execOp,ho,e1,e2];exact aL run
    ·cases hr;have hm:=gD (m:=m) (S:=fun b i=>S b i∨b=w.heap.size) (w:=w.alloc (.cells (madeCells zv.cells (y.toNat*s)) e)) (e:=e) (b:=b) hrd hlen hpos x.toNat y.toNat (by omega) s;refine bd (h':=σ.h) (u':=σ.u) (h.newRo (.cells (madeCells zv.cells (y.toNat*s)) e)) hd (v:=.slice (some ⟨w.heap.size,0,none⟩) x.toNat y.toNat) (by simp only[execOp,ho,e1,e2]; exact aL run) (x:=vd (.sl (List.replicate x.toNat z))) ?_ (fun i hi=>by cases hi) hK;have rd:=Reads.of_row (S:=fun b i=>S b i∨b=w.heap.size) (w:=w.alloc (.cells (madeCells zv.cells (y.toNat*s)) e)) (a:=⟨w.heap.size,0,none⟩) (cap:=y.toNat) (sz:=s) (es:=List.replicate x.toNat z) (fun i hi=>⟨(hm.2 i hi).1,fun j hj=>by
       obtain⟨v,hv,hrv⟩:=(hm.2 i hi).2 j hj;refine⟨v,.inr rfl,?_,hrv⟩
       show (w.alloc _).cell? ⟨w.heap.size,0+i*s+j,none⟩=_
       rw[fN,Nat.zero_add];exact hv⟩) (by rw[zG]; omega) (by simp only[maxLen]; omega)
     rw[zG] at rd;exact rd.rw (m:=m)
   ·cases hr
  ·cases hr
theorem kC (s:ByteArray) (cap i:Nat) (hi:i<s.data.toList.length):(bytesRow s cap)[i]?=some (.int .u8 (s.data.toList[i].toNat:Int)):=by
  have:=bytesRow_at s cap i (by simpa using hi)
  simpa using this
theorem xe (src t e:TypeId) (hsrc:P.underlying src=some .string) (ht:P.underlying t=some (.slice e)) (he:P.underlying e=some (.int .u8)) (own:Bool) (x:Operand) (x':SX) (ho:o.op=.convert src t x) (hx:ai x=some x') (h:Inv G N Sin w0 σ a w S m) (hd:∀ t,o.dst=some t→t<N∧w0.fx t=none) {r:R} (hr:ef (ev G σ.f) σ.h σ.u (o.dst.getD 0) (.s2b own x')=some r) (hK:K (σ.put o.dst r)):o.wp P a w (Nx G N Sin w0 K) Q:=by
  have hv:=(h.operand hx).1;simp only[ef] at hr;split at hr
  ·rename_i s e1;split at hr
   case isFalse=>cases hr
   rename_i h63;rw[e1] at hv;have hval:=eD hv;have run:=run_bytes_of_string (P:=P) w src t e s hsrc ht he;have hrun:(execOp a.eval o).run P w=.ok (.value (.slice (some ⟨w.heap.size,0,none⟩) s.size (grownCap w s.size 0 e))) (w.drew.alloc (.cells (bytesRow s (grownCap w s.size 0 e)) e ((bytesRow s (grownCap w s.size 0 e)).size,(bytesRow s (grownCap w s.size 0 e)).size+1))):=by
     simp only[execOp,ho,hval];exact aL run
   have hcap:=grownCap_ge w s.size 0 e;have hcm:=grownCap_le_maxLen w s.size 0 e h63;have hsz:(bytesRow s (grownCap w s.size 0 e)).size=grownCap w s.size 0 e:=by
     simp only[bytesRow,Array.size_append,Array.size_map,Array.size_replicate]
     show s.size+_=_
     omega
   have hlen:(s.data.toList.map bD).length=s.size:=by simp
   have hth:bS (bytesRow s (grownCap w s.size 0 e)) ((bytesRow s (grownCap w s.size 0 e)).size,(bytesRow s (grownCap w s.size 0 e)).size+1):=⟨Nat.le_succ _,fun _=>y8 _⟩
   split at hr
   ·obtain⟨hu,rfl⟩:=cT hr;refine o0 (sz:=1) (ob:=.row 1 (s.data.toList.map bD)) (c:=.own (8*o.dst.getD 0) 1 0 s.size) h.drew hd hu rfl hth ?_ (fun j hj=>by cases hj) hrun (g8 (w:=w.drew) (by omega) hcm (by rw[hsz]; omega)) rfl hK;refine⟨by rw[hlen,hsz]; omega,fun i hi=>?_⟩;rw[zq] at hi;simp only[zk,bD,D.cells];refine⟨rfl,fun j hj=>?_⟩;simp only[List.length_singleton] at hj;obtain rfl:j=0:=by omega
    exact⟨_,by rw[Nat.mul_one,Nat.add_zero]; exact kC s _ i hi,.int _ _⟩
   ·cases hr;refine bd (h':=σ.h) (u':=σ.u) (h.drew.newRo _) hd hrun (x:=vd (.sl (s.data.toList.map bD))) ?_ (fun i hi=>by cases hi) hK
    have rd:=Reads.of_row (S:=fun b i=>S b i∨b=w.drew.heap.size) (w:=w.drew.alloc (.cells (bytesRow s (grownCap w s.size 0 e)) e ((bytesRow s (grownCap w s.size 0 e)).size,(bytesRow s (grownCap w s.size 0 e)).size+1)))
      (a:=⟨w.heap.size,0,none⟩) (cap:=grownCap w s.size 0 e) (sz:=1) (es:=s.data.toList.map bD) (fun i hi=>by
       rw[zq] at hi;simp only[zk,bD,D.cells];refine⟨rfl,fun j hj=>?_⟩;simp only[List.length_singleton] at hj;obtain rfl:j=0:=by omega
       refine⟨.int .u8 (s.data.toList[i].toNat:Int),.inr rfl,?_,.int _ _⟩
       show (w.drew.alloc _).cell? ⟨w.drew.heap.size,0+i*1+0,none⟩=_
       rw[fN]
       simpa using kC s (grownCap w s.size 0 e) i hi) (by rw[hlen]; exact hcap) hcm
    rw[hlen] at rd;exact rd.rw (m:=m)
  ·cases hr
theorem o3 (t e:TypeId) (ht:P.underlying t=some (.slice e)) (he:P.underlying e=some (.int .u8)) (x:Operand) (x':SX) (ho:o.op=.convert t t x) (hx:ai x=some x') (h:Inv G N Sin w0 σ a w S m) {id sz off n sz':Nat} {es:List D} (e1:ev G σ.f x'=.w (.c (.own id sz off n))) (ho1:σ.h id=some (.row sz' es)) (hn:0<n) :
    ∃ v w1,(execOp a.eval o).run P w=.ok (.value v) w1∧Inv G N Sin w0 σ a w1 S m∧RV m S w1 v (.w (.c (.own id sz off n)))∧∀ i∈(V.w (.c (.own id sz off n))).ids,σ.u i=true:=by
  have hv:=h.operand hx;rw[e1] at hv;obtain⟨ok1,ok2,ok3⟩:=h.obj id _ ho1;have hw:aC m w (a.eval x) id sz off n:=hv.1;unfold aC at hw;unfold aA at ok1;cases hm:m id with
  | none=>simp[hm] at hw; obtain⟨⟨ad,hval⟩,rfl,rfl⟩:=hw; exact absurd hn (by omega)
  | some p =>
    obtain⟨b,s⟩:=p;rw[hm] at ok1;simp only[hm] at hw;obtain⟨rfl,ad,cap,ty,M,hval,hc1,hc2,hc3,hc4,hc5⟩:=hw;obtain⟨g1,g2,g3,cur,ty0,fz,g4,g5,g6⟩:=ok1;have g4:w.heap[b]?=some (.cells cur ty0 fz):=g4;have hb:ad.block=b:=by rw[hc3 (.inl (by omega))]
    obtain⟨lo,hi⟩:=fz;have hshape:w.shape? ad.block=some (ty0,cur.size):=by unfold World.shape?; rw[hb,g4]
    have hfz:w.freeze ⟨ad.block,cur.size,none⟩ 1={ w with heap:=w.heap.modify b fun | .cells c elem (lo,hi)=>.cells c elem (if lo==hi then (cur.size,cur.size+1) else (min lo cur.size,max hi (cur.size+1))) | o=>o }:=by
      unfold World.freeze;rw[if_neg (by decide),hb];rfl
    have run:(execOp a.eval o).run P w=.ok (.value (.slice (some ad) n cap)) (w.freeze ⟨ad.block,cur.size,none⟩ 1):=by
      simp only[execOp,ho,hval];refine aL ?_;simp[convert,run_underlying ht,run_underlying he,markStringish,hshape]
    have hcur':(w.freeze ⟨ad.block,cur.size,none⟩ 1).heap[b]?=some (.cells cur ty0 (if lo==hi then (cur.size,cur.size+1) else (min lo cur.size,max hi (cur.size+1)))):=by
      rw[hfz];simp[Array.getElem?_modify,g4]
    have hother:∀ k,k≠b→(w.freeze ⟨ad.block,cur.size,none⟩ 1).heap[k]?=w.heap[k]?:=fun k hk=>by
      rw[hfz];simp only[Array.getElem?_modify];rw[if_neg (by omega)]
    have hth:bS cur (if lo==hi then (cur.size,cur.size+1) else (min lo cur.size,max hi (cur.size+1))):=by
      obtain⟨t1,t2⟩:=g5;simp only at t1 t2;split
      ·exact⟨Nat.le_succ _,fun _=>y8 _⟩
      ·rename_i hne;have hne:lo≠hi:=by simpa using hne
       have:=t2 (by omega);exact⟨by simp only; omega,fun _=>by simp only; omega⟩
    have hbel:aJ w0.heap.size w0.ext w0 (w.freeze ⟨ad.block,cur.size,none⟩ 1):=by
      refine h.below.trans ?_;rw[hfz];exact⟨rfl,rfl,rfl,by simp,fun k hk hx=>by
        simp only[Array.getElem?_modify];rw[if_neg fun e=>by
         have e':k=b:=by omega
         subst e';exact (g2:w0.may k).elim (fun h=>by omega) hx]⟩
    have hinv:=h.mark ho1 hm g4 hcur' hth hother hbel (by rw[hfz]; simp);refine⟨_,_,run,hinv,?_,fun i hi=>hv.2 i hi⟩
    show aC m _ _ _ _ _ _
    unfold aC;simp only[hm];refine⟨trivial,ad,cap,ty0,cur.size,rfl,hc1,hc2,hc3,?_,?_⟩
    ·unfold World.shape?; rw[hcur']
    ·have:w.shape? b=some (ty0,cur.size):=by rw[← hb]; exact hshape
     rw[this] at hc4;cases hc4;exact hc5
theorem wm (t e:TypeId) (ht:P.underlying t=some (.slice e)) (he:P.underlying e=some (.int .u8)) (x:Operand) (x':SX) (ho:o.op=.convert t t x) (hx:ai x=some x') (h:Inv G N Sin w0 σ a w S m) (hd:∀ t,o.dst=some t→t<N∧w0.fx t=none) {r:R} (hr:ef (ev G σ.f) σ.h σ.u (o.dst.getD 0) (.mark x')=some r) (hK:K (σ.put o.dst r)):o.wp P a w (Nx G N Sin w0 K) Q:=by
  simp only[ef] at hr;split at hr
  ·rename_i id sz off n e1;split at hr
   ·rename_i sz' es ho1;split at hr
    ·rename_i hsz;cases hr;obtain⟨v,w1,run,hinv,hv,hu⟩:=o3 t e ht he x x' ho hx h e1 ho1 hsz.2;exact bd (h':=σ.h) (u':=σ.u) hinv hd run (x:=.w (.c (.own id sz off n))) hv hu hK
    ·cases hr
   ·cases hr
  ·cases hr
end
section
variable {P:Program} {G:au} {N:Nat} {Sin:ae} {w0:Gh} {σ:St} {a:Act} {w:World} {S:ae} {m:Mp} {o:Oper} {K:St→Prop} {Q:Exit→Act→World→Prop}
def dN (h:ah) (m:Mp) (S:ae):ae:=fun b i=>S b i∨∃ id o s,h id=some o∧m id=some (b,s)
theorem dN.lt (h:Inv G N Sin w0 σ a w S m):∀ b i,dN σ.h m S b i→b<w.heap.size:=by
  rintro b i (hs | ⟨id,ob,s,ho,hm⟩)
  ·exact (h.sin b i hs).1
  ·exact (h.obj id ob ho).1.lt hm
theorem cx {sz:Nat}:∀ {es:List D},(∀ e∈es,e.cells.length=sz)→(es.flatMap D.cells).length=es.length*sz
  | [],_=>by simp
  | e::es,h=>by
    rw[y4,zt,cx fun x hx=>h x (by simp[hx]),h e (by simp),List.length_cons,zm]; omega
theorem flat_get {sz:Nat}:∀ {es:List D},(∀ e∈es,e.cells.length=sz)→∀ i (hi:i<es.length) j,j<sz→(es.flatMap D.cells)[i*sz+j]?=es[i].cells[j]?
  | e::es,h,0,_,j,hj=>by
    rw[y4,List.getElem?_append_left (by rw[h e (by simp)]; omega)];simp
  | e::es,h,i+1,hi,j,hj=>by
    have he:=h e (by simp);have e1:(i+1)*sz+j-sz=i*sz+j:=by rw[zm]; omega
    rw[y4,List.getElem?_append_right (by rw[he,zm]; omega),he,e1,flat_get (fun x hx=>h x (by simp[hx])) i (by simpa using hi) j hj];simp
theorem iQ {s sz:Nat} {es:List D} {cur:Array Value} (h:aG m S w sz cur (.row s es)):(∀ e∈es,e.cells.length=sz)∧ab (Reads S w) (cur.toList.take (es.length*sz)) (es.flatMap D.cells):=by
  have hsz:∀ e∈es,e.cells.length=sz:=fun e he=>by
    obtain⟨i,hi,rfl⟩:=zr he;exact (h.2 i hi).1
  have hle:=h.1;refine⟨hsz,.mk (by rw[cx hsz]; simp; omega) fun k h1 h2=>?_⟩;rw[cx hsz] at h2;have hpos:0<sz:=by
    rcases zJ sz with h0 | h0
    ·rw[h0] at h2; simp at h2
    ·exact h0
  have hi:k / sz<es.length:=by rw[Nat.div_lt_iff_lt_mul hpos]; exact h2
  have hj:k%sz<sz:=Nat.mod_lt _ hpos;have hk:k / sz*sz+k%sz=k:=by rw[Nat.mul_comm]; exact Nat.div_add_mod k sz
  have hg:=flat_get hsz (k / sz) hi (k%sz) hj;obtain⟨h3,h4⟩:=h.2 (k / sz) hi;obtain⟨v,h5,h6⟩:=h4 (k%sz) (by rw[h3]; exact hj);rw[hk] at hg h5;have hx:(es.flatMap D.cells)[k]'(by rw[cx hsz]; exact h2)=es[k / sz].cells[k%sz]'(by rw[h3]; exact hj):=by
    rw[yZ (by rw[cx hsz]; exact h2),yZ (by rw[h3]; exact hj)] at hg
    simpa using hg
  rw[hx,zI];have:=(y3.1 h5).2;simp only[Array.getElem_toList,this];exact h6
theorem kw {s sz:Nat} {es:List D} {cur:Array Value} (hsz:∀ e∈es,e.cells.length=sz) (hle:es.length*sz≤cur.size) (h:ab (Reads S w) (cur.toList.take (es.length*sz)) (es.flatMap D.cells)):aG m S w sz cur (.row s es):=by
  refine⟨hle,fun i hi=>?_⟩;have h3:=hsz es[i] (zx hi);refine⟨h3,fun j hj=>?_⟩;have hj':j<sz:=by omega
  have hg:=flat_get hsz i hi j hj';rw[yZ hj] at hg;obtain⟨v,h4,h5⟩:=h.get? hg;refine⟨v,?_,h5⟩;rw[zp] at h4;split at h4
  ·simpa using h4
  ·cases h4
theorem bn.append {ad:Addr} {cs ds:List D} (h:bn S w ad cs) (k:bn S w ⟨ad.block,ad.off+cs.length,ad.spot⟩ ds):bn S w ad (cs++ds):=by
  intro j hj;by_cases hlt:j<cs.length
  ·obtain⟨v,h1,h2,h3⟩:=h j hlt;exact⟨v,h1,h2,by rw[List.getElem_append_left hlt]; exact h3⟩
  ·rw[zt] at hj;obtain⟨v,h1,h2,h3⟩:=k (j-cs.length) (by omega);have e:ad.off+cs.length+(j-cs.length)=ad.off+j:=by omega
   simp only[e] at h1 h2;exact⟨v,h1,h2,by rw[List.getElem_append_right (by omega)]; exact h3⟩
theorem bB.flat:∀ {es:List D} {ad:Addr} {sz:Nat},bB S w ad sz es→bn S w ad (es.flatMap D.cells)
  | [],_,_,_=>fun j hj=>by simp at hj
  | e::es,ad,sz,h=>by
    have h0:=h 0 (by simp);simp only[List.getElem_cons_zero,Nat.zero_mul,Nat.add_zero] at h0;have ht:bB S w ⟨ad.block,ad.off+sz,ad.spot⟩ sz es:=fun i hi=>by
      have:=h (i+1) (by simpa using hi);simp only[List.getElem_cons_succ,zm,Nat.one_mul] at this;have e1:ad.off+(i*sz+sz)=ad.off+sz+i*sz:=by omega
      rw[e1] at this;exact this
    rw[y4];refine bn.append h0.2 ?_;rw[h0.1];exact ht.flat
theorem mI (h:Inv G N Sin w0 σ a w S m) {T:ae} (hT:∀ b i,S b i→T b i) {v:Value} {id sz off n:Nat} {es:List D} (hid:∀ b s i u x,m id=some (b,s)→w.cell? ⟨b,i,none⟩=some u→Reads S w u x→x∈es.flatMap D.cells→T b i) (hv:aC m w v id sz off n) {ob:Ob} (ho:σ.h id=some ob) (e:bI ob off n=some es):Reads T w v (.sl es)∧es.length=n:=by
  have hk:=(h.obj id ob ho).1;unfold aC at hv;unfold aA at hk;split at hv
  ·rename_i hm;rw[hm] at hk;obtain⟨s,rfl⟩:=hk;obtain⟨⟨ad,rfl⟩,rfl,rfl⟩:=hv;simp only[bI] at e;split at e
   ·cases e;exact⟨Reads.zero ad,rfl⟩
   ·cases e
  ·rename_i b sz' hm;rw[hm] at hk;obtain⟨rfl,ad,cap,ty,M,rfl,h2,h3,h4,h5,h6⟩:=hv;obtain⟨k1,k2,k3,cur,ty',fz,k4,k5,k6⟩:=hk;have hin:∀ i u x,w.cell? ⟨b,i,none⟩=some u→Reads S w u x→x∈es.flatMap D.cells→T b i:=fun i u x=>hid b sz' i u x hm
   have hlen:es.length=n:=by
     cases ob with
     | row s es' =>
       simp only[bI] at e;split at e
       ·cases e; rw[zg,zz]; omega
       ·cases e
     | box cs =>
       simp only[bI] at e;split at e
       ·have:=gR e;have hl:=congrArg List.length this;rw[zg,zz,zq] at hl;omega
       ·cases e
     | mp q es'=>cases e
     | it q l p=>cases e
   refine⟨?_,hlen⟩;rw[← hlen];refine Reads.of_row (sz:=sz') ?_ (by omega) h3;intro i hi;have hcap:0<cap:=by omega
   rw[h4 (.inl hcap)];cases ob with
   | mp q es'=>cases e
   | it q l p=>cases e
   | row s es' =>
     simp only[bI] at e;split at e
     ·rename_i hle;cases e;rw[zg,zz] at hi;have hidx:off+i<es'.length:=by omega
      obtain⟨q1,q2⟩:=k6.2 (off+i) hidx;have eg:((es'.drop off).take n)[i]'(by rw[zg,zz]; omega)=es'[off+i]:=by rw[zI,List.getElem_drop]
      rw[eg];refine⟨q1,fun j hj=>?_⟩;obtain⟨v,q3,q4⟩:=q2 j hj;have e2:off*sz'+i*sz'+j=(off+i)*sz'+j:=by rw[zm]
      have hcell:w.cell? ⟨b,off*sz'+i*sz'+j,none⟩=some v:=by
        rw[cell_of_row w b _ cur ty' fz k4];simp only[e2];exact q3
      refine⟨v,hin _ v _ hcell q4 ?_,hcell,q4.mono hT⟩;refine y0.2 ⟨es'[off+i],?_,zx hj⟩;rw[← eg];exact zx _
     ·cases e
   | box cs =>
     simp only[Ob.sz] at k1;subst k1;simp only[bI] at e;split at e
     ·rename_i hle;have hall:=gR e;have hidx:off+i<cs.length:=by omega
      obtain⟨v,q3,q4⟩:=k6.2 (off+i) hidx;have eg:cs[off+i]=C.d es[i]:=by
        have hl:i<((cs.drop off).take n).length:=by rw[zg,zz]; omega
        have h1:((cs.drop off).take n)[i]'hl=cs[off+i]:=by rw[zI,List.getElem_drop]
        rw[← h1];simp only[hall,zk]
      rw[eg] at q4;have q5:Reads S w v es[i]:=q4;have hc:=q5.cellsOf;refine⟨by rw[hc]; rfl,fun j hj=>?_⟩;obtain rfl:j=0:=by rw[hc] at hj; simpa using hj
      have hcell:w.cell? ⟨b,off*1+i*1+0,none⟩=some v:=by
        rw[cell_of_row w b _ cur ty' fz k4];have e2:off*1+i*1+0=off+i:=by omega
        simp only[e2];exact q3
      refine⟨v,hin _ v _ hcell q5 (y0.2 ⟨es[i],zx _,by rw[hc]; exact zj.2 rfl⟩),hcell,?_⟩;have:es[i].cells[0]=es[i]:=by simp[hc]
      rw[this];exact q5.mono hT
     ·cases e
theorem xf (h:Inv G N Sin w0 σ a w S m) {T:ae} (hT:∀ b i,S b i→T b i) {v:Value} {id sz off n:Nat} (hid:∀ b s i,m id=some (b,s)→T b i) (hv:aC m w v id sz off n) {ob:Ob} (ho:σ.h id=some ob) {es:List D} (e:bI ob off n=some es):Reads T w v (.sl es)∧es.length=n :=
  mI h hT (fun b s i _ _ hm _ _ _=>hid b s i hm) hv ho e
theorem g9 (h:Inv G N Sin w0 σ a w S m) {T:ae} (hT:∀ b i,S b i→T b i) {v:Value} {c:C} (hid:∀ id∈c.ids,∀ o b s i,σ.h id=some o→m id=some (b,s)→T b i) (hv:RC m S w v c) {d:D} (e:bg σ.h c=some d):Reads T w v d:=by
  cases c <;> simp only[bg] at e <;> first | (cases e; done) | skip
  ·cases e; exact Reads.mono hv hT
  ·cases e;obtain⟨ad,rfl⟩:∃ ad,v=.slice ad 0 0:=hv
   exact Reads.zero ad
  ·split at e
   ·rename_i ob ho;simp only[yX] at e;obtain⟨es,he,rfl⟩:=e;exact (xf h hT (fun b s i hm=>hid _ (by simp[C.ids]) ob b s i ho hm) hv ho he).1
   ·cases e
theorem o4 (h:Inv G N Sin w0 σ a w S m) {T:ae} (hT:∀ b i,S b i→T b i):∀ {us:List Value} {cs:List C} {ds:List D},(∀ id∈cs.flatMap C.ids,∀ o b s i,σ.h id=some o→m id=some (b,s)→T b i)→ab (RC m S w) us cs→cn σ.h cs=some ds→ab (Reads T w) us ds
  | _,_,_,_,.nil,e=>by simp only[cn,yY] at e; subst e; exact .nil
  | _,_,_,hid,.cons h1 h2,e=>by
    simp only[cn] at e;split at e
    ·rename_i x l h3 h4;cases e;exact .cons (g9 h hT (fun id hi=>hid id (by simp[hi])) h1 h3) (o4 h hT (fun id hi=>hid id (by rw[y4]; exact y1 _ hi)) h2 h4)
    ·cases e
theorem ga (h:Inv G N Sin w0 σ a w S m) {T:ae} (hT:∀ b i,S b i→T b i) {v:Value} {x:W} (hid:∀ id∈x.ids,∀ o b s i,σ.h id=some o→m id=some (b,s)→T b i) (hv:RW m S w v x) {d:D} (e:toW σ.h x=some d):RW (fun _=>none) T w v (.c (.d d)):=by
  unfold toW at e;split at e
  ·rename_i c;by_cases hc:∃ cs,c=.d (.agg cs)
   ·obtain⟨cs,rfl⟩:=hc;simp only[bg,yY] at e;subst e;obtain⟨us,h1,h2⟩:=hv;exact⟨us,h1,h2.weak fun _ _ _ _ h=>h.mono hT⟩
   ·have hv':RC m S w v c:=by
      unfold RW at hv;split at hv
      ·rename_i e1; cases e1; exact absurd ⟨_,rfl⟩ hc
      ·rename_i e1; cases e1; exact hv
      ·rename_i e1; cases e1
    exact (g9 h hT hid hv' e).rw
  ·simp only[yX] at e;obtain⟨ds,he,rfl⟩:=e;obtain⟨us,h1,h2⟩:=hv;exact⟨us,h1,o4 h hT hid h2 he⟩
theorem jq (h:Inv G N Sin w0 σ a w S m) {T:ae} (hT:∀ b i,S b i→T b i) {v:Value} {id sz i o:Nat} (hid:∀ ob b s i,σ.h id=some ob→m id=some (b,s)→T b i) (hv:∃ b,m id=some (b,sz)∧v=.pointer (some ⟨b,i*sz+o,none⟩)) {d:D} (e:df σ.h id i o=some d):Reads T w v d:=by
  unfold df at e;split at e
  ·rename_i cs ho;split at e
   ·rename_i hz;obtain⟨rfl,rfl⟩:=hz;simp only[yX] at e;obtain⟨ds,hds,rfl⟩:=e;obtain⟨b,hm,rfl⟩:=hv;have ob:=(h.obj id _ ho).1;unfold aA at ob;rw[hm] at ob;obtain⟨_,_,_,cur,ty,fz,k4,_,k6⟩:=ob;have k4':w.heap[b]?=some (.cells cur ty fz):=k4;obtain⟨us,hu,hc⟩:∃ us:List Value,ab (RC m S w) us cs∧∀ j u,us[j]?=some u→cur[j]?=some u:=by
      refine⟨cur.toList.take cs.length,.mk (by have:=k6.1; simp; omega) fun j h1 h2=>?_,fun j u hj=>?_⟩
      ·obtain⟨u,q1,q2⟩:=k6.2 j h2;have:(cur.toList.take cs.length)[j]=u:=by
         rw[zI,Array.getElem_toList];rw[y3] at q1;exact q1.2
       rw[this]; exact q2
      ·rw[zp] at hj;split at hj
       ·rw[← zw]; exact hj
       ·cases hj
    have hr:=eY hds hu;refine Reads.of_cells fun j hj=>?_
    have hl:=hr.length;refine⟨us[j],hid _ b sz _ ho hm,?_,(hr.get j (by omega) hj).mono hT⟩;rw[cell_of_row w b _ cur ty fz k4'];have:=hc j us[j] (yZ (by omega))
    simpa using this
   ·cases e
  ·cases e
theorem jr (h:Inv G N Sin w0 σ a w S m) {T:ae} (hT:∀ b i,S b i→T b i):∀ {vs:List Value} {ps:List Cp} {ds:List D},(∀ id∈ps.flatMap Cp.ids,∀ ob b s i,σ.h id=some ob→m id=some (b,s)→T b i)→ab (bJ m S w) vs ps→ci σ.h ps=some ds→ab (Reads T w) vs ds
  | _,_,_,_,.nil,e=>by simp only[ci,yY] at e; subst e; exact .nil
  | _,.d x::r,_,hid,.cons h1 h2,e=>by
    simp only[ci,yX] at e;obtain⟨l,hl,rfl⟩:=e;exact .cons (Reads.mono h1 hT) (jr h hT (fun id hi=>hid id (by rw[y4]; exact y1 _ hi)) h2 hl)
  | _,.p id sz i o::r,_,hid,.cons h1 h2,e=>by
    simp only[ci] at e;split at e
    ·rename_i x l h3 h4;cases e;exact .cons (jq h hT (fun ob b s i ho hm=>hid id (by simp[Cp.ids]) ob b s i ho hm) h1 h3) (jr h hT (fun id hi=>hid id (by rw[y4]; exact y1 _ hi)) h2 h4)
    ·cases e
theorem xY (h:Inv G N Sin w0 σ a w S m) {T:ae} (hT:∀ b i,S b i→T b i) {v:Value} {c:C} (hid:∀ id∈c.ids,∀ o b s i,σ.h id=some o→m id=some (b,s)→T b i) (hv:RW m S w v (.c c)) {d:D} (e:a4 σ.h c=some d):RW (fun _=>none) T w v (.c (.d d)):=by
  have old:bg σ.h c=some d→RW (fun _=>none) T w v (.c (.d d)):=fun e'=>ga (x:=.c c) h hT hid hv e'
  cases c with
  | ptr id sz i o=>exact (jq h hT (fun ob b s i ho hm=>hid id (by simp[C.ids]) ob b s i ho hm) hv e).rw
  | cf g pre post =>
    simp only[a4] at e;split at e
    ·rename_i hp;simp only[yX] at e;obtain⟨ds,hds,rfl⟩:=e;obtain⟨us,vs,rfl,k1,k2⟩:∃ us vs:List Value,v=.func (.func g) us.toArray vs.toArray∧ab (bJ m S w) us pre∧ab (bJ m S w) vs post:=hv
     obtain rfl:pre=[]:=by simpa using hp
     cases k1;have k3:=jr h hT (fun id hi=>hid id (by simp only[C.ids,List.flatMap_nil,List.nil_append]; exact hi)) k2 hds;have hl:=k3.length;refine Reads.rw (.fn g vs ds (fun j=>vs.getD j undef) hl (fun j hj=>?_) fun j hj=>?_)
     ·rw[zu,yZ hj]; rfl
     ·have:=k3.get j (by omega) hj;rw[zu,yZ (by omega:j<vs.length)];exact this
    ·cases e
  | d x=>exact old e
  | nil=>exact old e
  | own id sz off n=>exact old e
  | _=>cases e
theorem o5 (h:Inv G N Sin w0 σ a w S m) {T:ae} (hT:∀ b i,S b i→T b i) {v:Value} {x:V} (hid:∀ id∈x.ids,∀ o b s i,σ.h id=some o→m id=some (b,s)→T b i) (hv:RV m S w v x) {d:D} (e:bK σ.h x=some d):RW (fun _=>none) T w v (.c (.d d)):=by
  unfold bK at e;split at e
  ·exact xY h hT hid hv e
  ·exact ga (x:=.mix _) h hT hid hv e
  ·cases e
theorem rv (h:Inv G N Sin w0 σ a w S m) {v:Value} {x:V} (hv:RV m S w v x) {d:D} (e:bK σ.h x=some d):RW (fun _=>none) (dN σ.h m S) w v (.c (.d d)) :=
  o5 h (fun _ _ h=>.inl h) (fun id _ ob b s i ho hm=>.inr ⟨id,ob,s,ho,hm⟩) hv e
def ec (h:ah) (m:Mp) (S:ae) (w:World):ae:=fun b i=>S b i∨((∃ id o s,h id=some o∧m id=some (b,s))∧∀ n,w.cell? ⟨b,i,none⟩≠some (.int .u8 n))
theorem ec.lt (h:Inv G N Sin w0 σ a w S m):∀ b i,ec σ.h m S w b i→b<w.heap.size:=by
  rintro b i (hs | ⟨⟨id,ob,s,ho,hm⟩,_⟩)
  ·exact (h.sin b i hs).1
  ·exact (h.obj id ob ho).1.lt hm
theorem xg (h:Inv G N Sin w0 σ a w S m) {v:Value} {x:V} (hv:RV m S w v x) {d:D} (e:bK σ.h x=some d) (ho1:x.own1=true) (hd:d.noU8=true):RW (fun _=>none) (ec σ.h m S w) w v (.c (.d d)):=by
  unfold V.own1 at ho1;split at ho1
  ·rename_i id sz off n;simp only[bK,a4,bg] at e;split at e
   ·rename_i ob hob;simp only[yX] at e;obtain⟨es,he,rfl⟩:=e;refine Reads.rw (mI h (T:=ec σ.h m S w) (fun _ _ h=>.inl h) (fun b s i u x hm hc hr hx=>.inr ⟨⟨id,ob,s,hob,hm⟩,fun n hn=>?_⟩) (show aC m w v id sz off n from hv) hob he).1;rw[hc,yY] at hn;subst hn;obtain⟨y,hy1,hy2⟩:=y0.1 hx;simp only[D.noU8,zf] at hd;have:=hd y hy1 x hy2;cases hr;simp[D.isU8] at this
   ·cases e
  ·cases ho1
theorem ja {v:Value} {x:W} (hv:RW m S w v x) {d:D} (e:cz x=some d):∃ us:List Value,v.cells=us.toArray∧ab (Reads S w) us d.cells:=by
  unfold cz at e;split at e
  ·rename_i y;cases e;by_cases hc:∃ cs,d=.agg cs
   ·obtain⟨cs,rfl⟩:=hc;obtain⟨us,rfl,h2⟩:=hv;exact⟨us,rfl,h2⟩
   ·have hv':Reads S w v d:=by
      cases d with
      | agg cs=>exact absurd ⟨_,rfl⟩ hc
      | _=>exact hv
    refine⟨[v],?_,?_⟩
    ·have:=hv'.oneCell;cases v <;> first | rfl | (simp[Value.oneCell'] at this; done)
    ·rw[hv'.cellsOf]; exact .cons hv' .nil
  ·cases e;obtain⟨ad,rfl⟩:∃ ad,v=.slice ad 0 0:=hv
   exact⟨[.slice ad 0 0],rfl,.cons (Reads.zero ad) .nil⟩
  ·simp only[yX] at e;obtain⟨ds,he,rfl⟩:=e;obtain⟨us,rfl,h2⟩:=hv;exact⟨us,rfl,eY he h2⟩
  ·cases e
theorem Reads.sl_of_rw {v:Value} {es:List D} (h:RW (fun _=>none) S w v (.c (.d (.sl es)))):Reads S w v (.sl es):=h
theorem mJ:∀ {es:List D} {l:List UInt8},fv es=some l→es=l.map bD
  | [],l,h=>by simp[fv] at h; subst h; rfl
  | x::es,l,h=>by
    simp only[fv] at h;split at h
    ·rename_i b k h1 h2;cases h;rw[mJ h2];unfold ue at h1;split at h1
     ·split at h1
      ·cases h1;simp only[y5,List.cons.injEq,and_true,bD,D.int.injEq,true_and,UInt8.toNat_ofNat'];omega
      ·cases h1
     ·cases h1
    ·cases h
theorem xh (src t e:TypeId) (hsrc:P.underlying src=some (.slice e)) (he:P.underlying e=some (.int .u8)) (ht:P.underlying t=some .string) (x:Operand) (x':SX) (ho:o.op=.convert src t x) (hx:ai x=some x') (h:Inv G N Sin w0 σ a w S m) (hd:∀ t,o.dst=some t→t<N∧w0.fx t=none)
    {es:List D} (hes:bK σ.h (ev G σ.f x')=some (.sl es)) {l:List UInt8} (hl:fv es=some l) (hK:K (σ.put o.dst (vd (.str ⟨l.toArray⟩),σ.h,σ.u))):o.wp P a w (Nx G N Sin w0 K) Q:=by
  have hv:=Reads.sl_of_rw (rv h (h.operand hx).1 hes);obtain rfl:=mJ hl;refine bV h hd (v:=.string ⟨l.toArray⟩) ?_ (.str _) hK;simp only[execOp,ho];refine aL ?_;rcases hv.row with ⟨h1,h2⟩ | ⟨ad,cap,sz,h1,h2,h3,h4⟩
  ·rw[h1];have:l=[]:=by simpa using h2
   subst this;rw[run_convert_bytes_nil w src e hsrc he 0 0 t ht];rfl
  ·rw[h1,zq];refine run_convert_bytes_back w src t e ad cap l hsrc he ht fun j hj=>?_
   obtain⟨q1,q2⟩:=h4 j (by simpa using hj);simp only[zk,bD,D.cells,List.length_singleton] at q1 q2;subst q1;obtain⟨v,_,q3,q4⟩:=q2 0 (by simp);have hs:=cell_spot q3;obtain⟨b,off,sp⟩:=ad;simp only at hs;subst hs;rw[bX];simp only[Nat.mul_one,Nat.add_zero] at q3;rw[q3];simp only[List.getElem_cons_zero] at q4;cases q4;rfl
def bP (cur:Array Value) (o:Nat):List Value→Array Value
  | []=>cur
  | v::r=>bP (cur.setIfInBounds o v) (o+1) r
theorem cw:∀ (vs:List Value) (cur:Array Value) (o:Nat),(bP cur o vs).size=cur.size
  | [],_,_=>rfl
  | v::r,cur,o=>by rw[bP,cw r]; simp
theorem dp:∀ (vs:List Value) (cur:Array Value) (o k:Nat),k<o∨o+vs.length≤k→(bP cur o vs)[k]?=cur[k]?
  | [],_,_,_,_=>rfl
  | v::r,cur,o,k,h=>by
    rw[bP,dp r _ _ _ (by simp at h; omega),zA (by simp at h; omega)]
theorem dF:∀ (vs:List Value) (cur:Array Value) (o j:Nat),o+vs.length≤cur.size→∀ hj:j<vs.length,(bP cur o vs)[o+j]?=some vs[j]
  | v::r,cur,o,0,h,_=>by
    rw[bP,dp r _ _ _ (by omega)];have h':o+(r.length+1)≤cur.size:=by simpa using h
    have ho:o<cur.size:=by omega
    simp[ho]
  | v::r,cur,o,j+1,h,hj=>by
    have:=dF r (cur.setIfInBounds o v) (o+1) j (by simp at h ⊢; omega) (by simpa using hj);rw[bP,show o+(j+1)=o+1+j by omega]
    simpa using this
theorem eW {b:Nat} {ty:TypeId} {fz:Nat×Nat}:∀ (vs:List Value) (o:Nat) (w:World) (cur:Array Value),w.heap[b]?=some (.cells cur ty fz)→(w.setCells b o vs).heap[b]?=some (.cells (bP cur o vs) ty fz)
  | [],_,_,_,h=>h
  | v::r,o,w,cur,h=>by
    rw[World.setCells,bP];refine eW r (o+1) _ _ ?_;rw[setCell_eq_setRow w b o cur ty fz v h];exact setRow_heap w b cur _ ty fz h
theorem fJ {b:Nat}:∀ (vs:List Value) (o:Nat) (w:World) (k:Nat),k≠b→(w.setCells b o vs).heap[k]?=w.heap[k]?
  | [],_,_,_,_=>rfl
  | v::r,o,w,k,h=>by rw[World.setCells,fJ r _ _ _ h,Below.heap_setCell _ _ _ _ h]
theorem setCells_size {b:Nat}:∀ (vs:List Value) (o:Nat) (w:World),(w.setCells b o vs).heap.size=w.heap.size
  | [],_,_=>rfl
  | v::r,o,w=>by rw[World.setCells,setCells_size r]; simp
theorem fK {b:Nat} {w0:Gh} (hB:w0.may b):∀ (vs:List Value) (o:Nat) (w:World),aJ w0.heap.size w0.ext w0 w→aJ w0.heap.size w0.ext w0 (w.setCells b o vs)
  | [],_,_,h=>h
  | v::r,o,w,h=>by
    rw[World.setCells];refine fK hB r _ _ (h.trans ?_);have k:=(Below.refl 0 w).setCell (p:=⟨b,o,none⟩) (z0 _) v;exact⟨k.os,k.tape,k.output,k.size,fun i hi hx=>Below.heap_setCell _ _ _ _ fun e=>by
      subst e;exact hB.elim (fun h=>by omega) hx⟩
theorem fM {α:Type} (l:List α) (off:Nat) (cs:List α) (h:off+cs.length≤l.length):(bo l off cs).length=l.length:=by
  simp[bo]; omega
theorem fS {α:Type} (l:List α) (off:Nat) (cs:List α) (h:off+cs.length≤l.length) (k:Nat):(bo l off cs)[k]?=if off≤k∧k<off+cs.length then cs[k-off]? else l[k]?:=by
  unfold bo;have hl:(l.take off).length=off:=by rw[zg]; omega
  by_cases h1:k<off
  ·rw[if_neg (by omega),List.append_assoc,List.getElem?_append_left (by omega),List.getElem?_take_of_lt h1]
  ·by_cases h2:k<off+cs.length
   ·rw[if_pos (by omega),List.append_assoc,List.getElem?_append_right (by omega),hl,List.getElem?_append_left (by omega)]
   ·rw[if_neg (by omega),List.getElem?_append_right (by rw[zt]; omega),zt,hl,zW]
    congr 1
    omega
theorem iX {b i:Nat} {cur:Array Value} {ty:TypeId} {fz:Nat×Nat} (h:w.heap[b]?=some (.cells cur ty fz)) (hf:bS cur fz) (hi:i<cur.size):w.frozen? ⟨b,i,none⟩=false:=by
  have:=hf.cell i hi;unfold World.frozen?;rw[h];simp;intro h1;have h2:¬ i<fz.2:=fun h2=>this ⟨h1,h2⟩
  omega
theorem uG {t:TypeId} {kd:Kd} (ht:bu P t=some kd) {b off:Nat} {v:Value} {us:List Value} (hv:v.cells=us.toArray) (hl:us.length=kd.size) (h1:∀ u∈us,u.oneCell'=true) {cur:Array Value} {ty:TypeId} {fz:Nat×Nat} (hc:w.heap[b]?=some (.cells cur ty fz)) (hf:bS cur fz) (hle:off+us.length≤cur.size) :
    (storeVar t ⟨b,off,none⟩ v).run P w=.ok () (w.setCells b off us):=by
  have:=run_storeCells_cells (P:=P) b off us 0 w (fun j hj=>by
   rw[cell_of_row w b _ cur ty fz hc];have:off+j<cur.size:=by omega
   simp[this]) (fun j hj=>iX hc hf (by omega)) h1
  have hs:v.cells.size=kd.size:=by rw[hv]; simpa using hl
  simp[storeVar,vx (w:=w) ht,hs,hv,hl]
  simpa using this
theorem iR {t:TypeId} {kd:Kd} (ht:bu P t=some kd) (x y:Operand) (ho:o.op=.store t x y) (hdst:o.dst=none) (h:Inv G N Sin w0 σ a w S m) {id b sz off:Nat} {ob ob':Ob} (hob:σ.h id=some ob) (hm:m id=some (b,sz)) (hx:a.eval x=.pointer (some ⟨b,off,none⟩)) {us:List Value} (hv:(a.eval y).cells=us.toArray) (hl:us.length=kd.size) (h1:∀ u∈us,u.oneCell'=true)
    {cur:Array Value} {ty:TypeId} {fz:Nat×Nat} (hc:w.heap[b]?=some (.cells cur ty fz)) (hf:bS cur fz) (hle:off+us.length≤cur.size) (hB:w0.may b) (hsz:ob'.sz=sz) (hcells:aG m S w sz (bP cur off us) ob') (hids:∀ j∈ob'.ids,σ.u j=true)
    (hK:K (σ.put o.dst (.undef,upd σ.h id (some ob'),σ.u))) (hmp:ob'.isMp=false:=by rfl):o.wp P a w (Nx G N Sin w0 K) Q:=by
  have run:=uG (w:=w) ht (off:=off) hv hl h1 hc hf hle;refine rt (w':=w.setCells b off us) ?_ ?_
  ·simp only[execOp,ho,hx];simp[Instr.storeAt,Instr.sureAddr,run]
  ·have hI:=h.write (w':=w.setCells b off us) hob hm hsz hc (eW us off w cur hc) (cw _ _ _) (fun k hk=>fJ us off w k hk) hcells hids (fK hB us off w h.below) (setCells_size us off w) hmp;have:=hI.put o.dst (v:=undef) (x:=.undef) (by rw[hdst]; intro t ht; cases ht) trivial (fun i hi=>by cases hi);exact⟨_,S,m,hK,this⟩
theorem D.cells_ne {d:D}:d.one=true∨∃ cs,d=.agg cs:=by cases d <;> first | exact .inl rfl | exact .inr ⟨_,rfl⟩
theorem ly {t:TypeId} {kd:Kd} (ht:bu P t=some kd) (x y:Operand) (x' y':SX) (ho:o.op=.store t x y) (hdst:o.dst=none) (hx:ai x=some x') (hy:ai y=some y') (h:Inv G N Sin w0 σ a w S m)
    {yw:W} (hyw:cI (ev G σ.f y')=some yw) {h':ah} (hst:am σ.h kd (ev G σ.f x') yw=some h') (hK:K (σ.put o.dst (.undef,h',σ.u))):o.wp P a w (Nx G N Sin w0 K) Q:=by
  have h1:=h.operand hx;have h2:=h.operand hy;obtain⟨hv,hyx⟩:=g7 h2.1 hyw;have hyids:∀ i∈yw.ids,σ.u i=true:=fun i hi=>h2.2 i (by rw[hyx]; exact hi)
  unfold am at hst;split at hst
  ·rename_i id psz i off e1;rw[e1] at h1;obtain⟨⟨b,hm,hxv⟩,_⟩:=h1;split at hst
   ·rename_i ob hob;have hobj:=h.obj id ob hob;have hk:=hobj.1;unfold aA at hk;rw[hm] at hk;obtain⟨hsz,hB,_,cur,ty,fz,k4,k5,k6⟩:=hk;simp only[yX] at hst;obtain⟨ob',hob',rfl⟩:=hst;cases ob with
    | mp q es'=>cases hob'
    | it q l p=>cases hob'
    | box cs =>
      simp only[Ob.sz] at hsz;subst hsz;simp only[eP] at hob';split at hob'
      ·rename_i hc;cases hob';obtain⟨us,hus,hall,hi⟩:=gC hv;have hul:us.length=kd.size:=by rw[hall.length]; exact hc.1
       have hcs:=k6.1;have hone:∀ u∈us,u.oneCell'=true:=fun u hu=>by
         obtain⟨j,hj,rfl⟩:=zr hu;exact (hall.get j hj (by rw[← hall.length]; exact hj)).one
       refine iR ht x y ho hdst h hob hm hxv hus hul hone k4 k5 (by omega) hB rfl ?_ (fun j hj=>?_) hK
       ·have hlen:=fM cs (i+off) (aO yw) (by omega);refine⟨by rw[hlen,cw]; exact hcs,fun j hj=>?_⟩;have hjl:j<cs.length:=by rw[hlen] at hj; exact hj
        have hg:=fS cs (i+off) (aO yw) (by omega) j;rw[yZ hj] at hg;by_cases hin:i+off≤j∧j<i+off+(aO yw).length
        ·rw[if_pos hin] at hg;obtain⟨v,q1,q2⟩:=hall.get? hg.symm;obtain⟨q3,q4⟩:=y6.1 q1;refine⟨v,?_,q2⟩;have:=dF us cur (i*1+off) (j-(i+off)) (by omega) q3;rw[show i*1+off+(j-(i+off))=j by omega,q4] at this;exact this
        ·rw[if_neg hin,yZ hjl,yY] at hg;obtain⟨v,q1,q2⟩:=k6.2 j hjl;refine⟨v,?_,by rw[hg]; exact q2⟩;rw[dp us cur (i*1+off) j (by have:=hc.1; omega)];exact q1
       ·have hmem:j∈(bo cs (i+off) (aO yw)).flatMap C.ids:=hj;unfold bo at hmem;simp only[zO,ze] at hmem;rcases hmem with (hm1 | hm1) | hm1
        ·obtain⟨c,hc1,hc2⟩:=y0.1 hm1;exact hobj.2.2 j (y0.2 ⟨c,zH hc1,hc2⟩)
        ·rw[hi] at hm1; exact hyids j hm1
        ·obtain⟨c,hc1,hc2⟩:=y0.1 hm1;exact hobj.2.2 j (y0.2 ⟨c,zU hc1,hc2⟩)
      ·cases hob'
    | row s es =>
      simp only[Ob.sz] at hsz;subst hsz;obtain⟨hle,krow⟩:=k6;have hmono:∀ j,j<es.length→j*s+s≤cur.size:=fun j hj=>by
        have:=zd s (show j+1≤es.length by omega);rw[zm] at this;omega
      have key:∀ (hi:i<es.length) (e':D) (us:List Value),(a.eval y).cells=us.toArray→us.length=kd.size→(∀ u∈us,u.oneCell'=true)→off+us.length≤s→e'.cells.length=s →
          (∀ j (hj:j<e'.cells.length),(off≤j∧j<off+us.length→∃ v,us[j-off]?=some v∧Reads S w v e'.cells[j])∧(¬ (off≤j∧j<off+us.length)→e'.cells[j]?=es[i].cells[j]?)) →
          True→K (σ.put o.dst (.undef,upd σ.h id (some (.row s (es.set i e'))),σ.u))→o.wp P a w (Nx G N Sin w0 K) Q:=by
        intro hi e' us hus hul hone hfit hlen hnew _ hK';have hmi:=hmono i hi;refine iR (ob':=.row s (es.set i e')) ht x y ho hdst h hob hm hxv hus hul hone k4 k5 (by omega) hB rfl ⟨by rw[zZ,cw]; exact hle,fun q hq=>?_⟩ (fun j hj=>by cases hj) hK';rw[zZ] at hq;rw[z1];by_cases hqi:i=q
        ·subst hqi;rw[if_pos rfl];refine⟨hlen,fun j hj=>?_⟩;obtain⟨n1,n2⟩:=hnew j hj;by_cases hin:off≤j∧j<off+us.length
         ·obtain⟨v,q1,q2⟩:=n1 hin;obtain⟨q3,q4⟩:=y6.1 q1;refine⟨v,?_,q2⟩;have:=dF us cur (i*s+off) (j-off) (by omega) q3;rw[show i*s+off+(j-off)=i*s+j by omega,q4] at this;exact this
         ·have n3:=n2 hin;obtain⟨p1,p2⟩:=krow i hi;have hj2:j<es[i].cells.length:=by omega
          obtain⟨v,q1,q2⟩:=p2 j hj2;rw[yZ hj,yZ hj2,yY] at n3;refine⟨v,?_,by rw[n3]; exact q2⟩;rw[dp us cur (i*s+off) _ (by omega)];exact q1
        ·rw[if_neg hqi];obtain⟨p1,p2⟩:=krow q hq;refine⟨p1,fun j hj=>?_⟩;obtain⟨v,q1,q2⟩:=p2 j hj;refine⟨v,?_,q2⟩;rw[dp us cur (i*s+off) _ ?_]
         ·exact q1
         ·rcases zP q i with hlt | hge
          ·have:=zd s (show q+1≤i by omega);rw[zm] at this;omega
          ·have:=zd s (show i+1≤q by omega);rw[zm] at this;omega
      simp only[eP] at hob';split at hob'
      ·rename_i e xd he hxd;obtain⟨hi,rfl⟩:=y6.1 he;obtain⟨us,hus,hall⟩:=ja hv hxd;have hone:∀ u∈us,u.oneCell'=true:=fun u hu=>by
         obtain⟨j,hj,rfl⟩:=zr hu;exact (hall.get j hj (by rw[← hall.length]; exact hj)).oneCell
       have p1:=(krow i hi).1;split at hob'
       ·rename_i ds heq;split at hob'
        ·rename_i hc;cases hob';have hds:es[i].cells=ds:=by rw[heq]; rfl
         rw[hds] at p1;have hul:us.length=kd.size:=by rw[hall.length]; exact hc.1
         have hR:=fM ds off xd.cells (by omega);refine key hi (.agg (bo ds off xd.cells)) us hus hul hone (by omega) (by show (bo ds off xd.cells).length=s; omega) (fun j hj=>?_) trivial hK;have hj':j<(bo ds off xd.cells).length:=hj;have hg:=fS ds off xd.cells (by omega) j;have hlu:=hall.length;refine⟨fun hin=>?_,fun hin=>?_⟩
         ·rw[if_pos (by omega),yZ hj'] at hg;exact hall.get? hg.symm
         ·rw[if_neg (by omega)] at hg;rw[hds];exact hg
        ·cases hob'
       ·split at hob'
        ·rename_i hnot hc;cases hob';obtain⟨rfl,rfl,hx1⟩:=hc;have hxc:=D.one_cells hx1;rw[hxc] at hall;have hul:us.length=1:=hall.length;have hes1:es[i].one=true:=by
           rcases D.cells_ne (d:=es[i]) with h3 | ⟨cs,h3⟩
           ·exact h3
           ·exact absurd h3 (hnot cs)
         have hes:s=1:=by rw[← p1,D.one_cells hes1]; rfl
         refine key hi xd us hus hul hone (by omega) (by rw[hxc,hes]; rfl) (fun j hj=>?_) trivial hK;rw[hxc] at hj;simp only[List.length_singleton] at hj;obtain rfl:j=0:=by omega
         refine⟨fun _=>?_,fun hn=>by omega⟩;refine⟨us[0],by simp[hul],?_⟩;have:=hall.get 0 (by omega) (by simp)
         simpa [hxc] using this
        ·cases hob'
      ·cases hob'
   ·cases hst
  ·rename_i id psz e1;rw[e1] at h1;obtain⟨⟨b,hm,hxv⟩,_⟩:=h1;split at hst
   ·rename_i s es cs hob;split at hst
    ·rename_i hc;obtain⟨rfl,rfl,hlen⟩:=hc;cases hst;have hobj:=h.obj id _ hob;have hk:=hobj.1;unfold aA at hk;rw[hm] at hk;obtain⟨hsz,hB,_,cur,ty,fz,k4,k5,k6⟩:=hk;simp only[Ob.sz] at hsz;subst hsz;obtain⟨us,hus,hall⟩:=hv;have hul:us.length=es.length:=by rw[hall.length]; exact hlen
     have hone:∀ u∈us,u.oneCell'=true:=fun u hu=>by
       obtain⟨j,hj,rfl⟩:=zr hu;exact (hall.get j hj (by rw[← hall.length]; exact hj)).oneCell
     have hle:=k6.1;refine iR (ob':=.row 1 cs) ht x y ho hdst h hob hm hxv (us:=us) (by rw[hus]; rfl) hul hone k4 k5 (by omega) hB rfl ⟨by rw[hlen,cw]; exact hle,fun i hi=>?_⟩ (fun j hj=>by cases hj) hK;have hi':i<us.length:=by omega
     have hr:=hall.get i hi' hi;have hcc:=hr.cellsOf;refine⟨by rw[hcc]; rfl,fun j hj=>?_⟩;obtain rfl:j=0:=by rw[hcc] at hj; simpa using hj
     refine⟨us[i],?_,?_⟩
     ·have:=dF us cur 0 i (by omega) hi'
      simpa using this
     ·have:cs[i].cells[0]=cs[i]:=by simp[hcc]
      rw[this];exact hr
    ·cases hst
   ·cases hst
  ·cases hst
end
section
variable {P:Program} {G:au} {N:Nat} {Sin:ae} {w0:Gh} {σ:St} {a:Act} {w:World} {S:ae} {m:Mp} {o:Oper} {K:St→Prop} {Q:Exit→Act→World→Prop}
theorem ab.mk? {α β:Type} {R:α→β→Prop} {l:List α} {k:List β} (hl:l.length=k.length) (h:∀ (i:Nat) (x:α) (y:β),l[i]?=some x→k[i]?=some y→R x y):ab R l k :=
  .mk hl fun i h1 h2=>h i _ _ (yZ h1) (yZ h2)
theorem jb (off:Nat):∀ (us:List Value) (k:Nat) (cells:Array Value),(us.zipIdx k).foldl (fun cs (x:Value×Nat)=>cs.setIfInBounds (off+x.2) x.1) cells=bP cells (off+k) us
  | [],_,_=>rfl
  | v::r,k,cells=>by
    rw[List.zipIdx_cons,List.foldl_cons,jb off r (k+1),bP];rfl
theorem wn {cur:Array Value} {cs:List C} (h:ab (RC m S w) cur.toList cs) {us:List Value} {ds:List C} (k:ab (RC m S w) us ds) {off:Nat} (hle:off+ds.length≤cs.length):ab (RC m S w) (bP cur off us).toList (bo cs off ds):=by
  have hl:=h.length;have hk:=k.length;simp only[zN] at hl;refine .mk? (by rw[zN,cw,fM _ _ _ hle]; exact hl) fun i x y hx hy=>?_
  rw[fS _ _ _ hle] at hy;rw[zw] at hx;by_cases hin:off≤i∧i<off+ds.length
  ·rw[if_pos hin] at hy;obtain⟨v,h1,h2⟩:=k.get? hy;obtain⟨h3,h4⟩:=y6.1 h1;have:=dF us cur off (i-off) (by omega) h3;rw[show off+(i-off)=i by omega,hx,h4,yY] at this;rw[this]; exact h2
  ·rw[if_neg hin] at hy;rw[dp us cur off i (by omega)] at hx;obtain⟨v,h1,h2⟩:=h.get? hy;rw[zw,hx,yY] at h1;rw[h1]; exact h2
theorem mK {cs ds:List C} {off:Nat} {p:Nat→Prop} (h1:∀ i∈cs.flatMap C.ids,p i) (h2:∀ i∈ds.flatMap C.ids,p i):∀ i∈(bo cs off ds).flatMap C.ids,p i:=by
  intro i hi;unfold bo at hi;simp only[zO,ze] at hi;rcases hi with (hm1 | hm1) | hm1
  ·obtain⟨c,hc1,hc2⟩:=y0.1 hm1;exact h1 i (y0.2 ⟨c,zH hc1,hc2⟩)
  ·exact h2 i hm1
  ·obtain⟨c,hc1,hc2⟩:=y0.1 hm1;exact h1 i (y0.2 ⟨c,zU hc1,hc2⟩)
theorem jc {u:Nat→Bool} {ρ:SX→V} (place:Nat→Option (Nat×Nat)):∀ {ps:List (Nat×Operand)} {qs:List (Nat×Nat×SX)} {cs cs':List C} {cur:Array Value},ab (RC m S w) cur.toList cs→(∀ i∈cs.flatMap C.ids,u i=true) →
    ab (fun p q=>place p.1=some (q.1,q.2.1)∧RV m S w (a.eval p.2) (ρ q.2.2)∧∀ i∈(ρ q.2.2).ids,u i=true) ps qs→parts ρ qs cs=some cs'→∃ cur',Instr.fill place cur (ps.map fun x=>(x.1,a.eval x.2))=some cur'∧ab (RC m S w) cur'.toList cs'∧∀ i∈cs'.flatMap C.ids,u i=true
  | _,_,cs,cs',cur,hall,hids,.nil,e=>by
    simp only[parts,yY] at e;subst e;exact⟨cur,rfl,hall,hids⟩
  | (i,x)::ps,(off,size,x')::qs,cs,cs',cur,hall,hids,.cons hpq hrest,e=>by
    obtain⟨hp,h1⟩:=hpq;simp only[parts] at e;split at e
    ·rename_i y hy;split at e
     ·rename_i hc;obtain⟨hv,hyx⟩:=g7 h1.1 hy;obtain⟨us,hus,hus2,hi⟩:=gC hv;have hul:us.length=size:=by rw[hus2.length]; exact hc.1
      have hcl:cur.size=cs.length:=by have:=hall.length; simpa using this
      have hnew:=wn hall hus2 (off:=off) (by omega);obtain⟨cur',g1,g2,g3⟩:=jc place hnew (mK hids fun j hj=>h1.2 j (by rw[hyx]; show j∈y.ids; rw[← hi]; exact hj)) hrest e;refine⟨cur',?_,g2,g3⟩;simp only[y5,Instr.fill,hp,hus];have hsz:us.toArray.size=size:=by simpa using hul
      rw[if_neg (by simp[hsz]; omega)];have:=jb off us 0 cur;simp only[Nat.add_zero] at this;rw[show (us.toArray.zipIdx.foldl (fun cs (x:Value×Nat)=>cs.setIfInBounds (off+x.2) x.1) cur)=bP cur off us by simpa using this];exact g1
     ·cases e
    ·cases e
theorem xi (h:Inv G N Sin w0 σ a w S m) (place:Nat→Option (Nat×Nat)) {ps:List (Nat×Operand)} {qs:List (Nat×Nat×SX)} {cs cs':List C} {cur:Array Value} (hall:ab (RC m S w) cur.toList cs) (hids:∀ i∈cs.flatMap C.ids,σ.u i=true)
    (hq:ab (fun p q=>place p.1=some (q.1,q.2.1)∧ai p.2=some q.2.2) ps qs) (e:parts (ev G σ.f) qs cs=some cs'):∃ cur',Instr.fill place cur (ps.map fun x=>(x.1,a.eval x.2))=some cur'∧ab (RC m S w) cur'.toList cs'∧∀ i∈cs'.flatMap C.ids,σ.u i=true :=
  jc place hall hids (hq.weak fun _ _ _ _ h1=>⟨h1.1,h.operand h1.2⟩) e
theorem lz (t:TypeId) (ps:Array (Nat×Operand)) (ho:o.op=.build t ps) (place:Nat→Option (Nat×Nat)) (zv:Value) (hb:∀ l cells,Instr.fill place zv.cells l=some cells→P.built t l=some cells) {cs:List C} (hcs:ar da zv.cells.toList=some cs)
    {qs:List (Nat×Nat×SX)} (hq:ab (fun p q=>place p.1=some (q.1,q.2.1)∧ai p.2=some q.2.2) ps.toList qs) (h:Inv G N Sin w0 σ a w S m) (hd:∀ t,o.dst=some t→t<N∧w0.fx t=none)
    {cs':List C} (hp:parts (ev G σ.f) qs cs=some cs') (hK:K (σ.put o.dst (.w (b9 cs'),σ.h,σ.u))):o.wp P a w (Nx G N Sin w0 K) Q:=by
  have hz:=iF (m:=m) (S:=S) (w:=w) hcs;obtain⟨cur',h1,h2,h3⟩:=xi h place hz.1 (fun i hi=>by rw[hz.2] at hi; cases hi) hq hp;have hmk:=fR h2;rw[zL] at hmk;refine bw h hd (x:=.w (b9 cs')) ?_ hmk.1 (fun i hi=>h3 i (hmk.2 i hi)) hK;simp only[execOp,ho];refine aL (run_build w t _ cur' (hb _ _ ?_));rw[← h1]
  congr 1
  simp
theorem xj {s sz:Nat} {es:List D} {cur:Array Value} (h:aG m S w sz cur (.row s es)) {i:Nat} (hi:i<es.length) {e:D} {us:List Value} (he:e.cells.length=sz) (hall:ab (Reads S w) us e.cells):aG m S w sz (bP cur (i*sz) us) (.row s (es.set i e)):=by
  obtain⟨hle,krow⟩:=h;have hmi:i*sz+sz≤cur.size:=by
    have:=zd sz (show i+1≤es.length by omega);rw[zm] at this;omega
  have hul:=hall.length;refine⟨by rw[zZ,cw]; exact hle,fun q hq=>?_⟩;rw[zZ] at hq;rw[z1];by_cases hqi:i=q
  ·subst hqi;rw[if_pos rfl];refine⟨he,fun j hj=>?_⟩;have hju:j<us.length:=by omega
   exact⟨us[j],dF us cur (i*sz) j (by omega) hju,hall.get j hju hj⟩
  ·rw[if_neg hqi];obtain⟨p1,p2⟩:=krow q hq;refine⟨p1,fun j hj=>?_⟩;obtain⟨v,q1,q2⟩:=p2 j hj;refine⟨v,?_,q2⟩;rw[dp us cur (i*sz) _ ?_]
   ·exact q1
   ·rcases zP q i with hlt | hge
    ·have:=zd sz (show q+1≤i by omega);rw[zm] at this;omega
    ·have:=zd sz (show i+1≤q by omega);rw[zm] at this;omega
theorem iY {ρ:SX→V} {sz:Nat}:∀ {ps:List (Nat×Operand)} {qs:List (Nat×SX)} {es es':List D} {cur:Array Value},aG m S w sz cur (.row sz es) →
    ab (fun p q=>p.1=q.1∧RV m S w (a.eval p.2) (ρ q.2)) ps qs→elems ρ sz qs es=some es'→∃ cur',Instr.fill (fun i=>some (i*sz,sz)) cur (ps.map fun x=>(x.1,a.eval x.2))=some cur'∧aG m S w sz cur' (.row sz es')∧es'.length=es.length∧cur'.size=cur.size
  | _,_,es,es',cur,hall,.nil,e=>by
    simp only[elems,yY] at e;subst e;exact⟨cur,rfl,hall,rfl,rfl⟩
  | (i,x)::ps,(i',x')::qs,es,es',cur,hall,.cons hpq hrest,e=>by
    obtain⟨hp,hx⟩:=hpq;simp only at hp;subst hp;simp only[elems] at e;split at e
    ·rename_i y hy;split at e
     ·rename_i hc;have h1:=hx;have hpw:∃ wv,ρ x'=.w wv∧cz wv=some y:=by
        unfold fj at hy;split at hy
        ·rename_i wv hw; exact⟨wv,hw,hy⟩
        ·cases hy
      obtain⟨wv,hw,hpy⟩:=hpw;rw[hw] at h1;obtain⟨us,hus,hus2⟩:=ja h1 hpy;have hul:us.length=sz:=by rw[hus2.length]; exact hc.1
      have hmi:i*sz+sz≤cur.size:=by
        have:=zd sz (show i+1≤es.length by omega);rw[zm] at this;have:=hall.1;omega
      obtain⟨cur',g1,g2,g3,g4⟩:=iY (xj hall hc.2 hc.1 hus2) hrest e;refine⟨cur',?_,g2,by rw[g3,zZ],by rw[g4,cw]⟩;simp only[y5,Instr.fill,hus];have hsz:us.toArray.size=sz:=by simpa using hul
      rw[if_neg (by simp[hsz]; omega)];have:=jb (i*sz) us 0 cur;simp only[Nat.add_zero] at this;rw[show (us.toArray.zipIdx.foldl (fun cs (x:Value×Nat)=>cs.setIfInBounds (i*sz+x.2) x.1) cur)=bP cur (i*sz) us by simpa using this];exact g1
     ·cases e
    ·cases e
theorem wq (h:Inv G N Sin w0 σ a w S m) {sz:Nat} {ps:List (Nat×Operand)} {qs:List (Nat×SX)} {es es':List D} {cur:Array Value}:aG m S w sz cur (.row sz es) →
    ab (fun p q=>p.1=q.1∧ai p.2=some q.2) ps qs→elems (ev G σ.f) sz qs es=some es'→∃ cur',Instr.fill (fun i=>some (i*sz,sz)) cur (ps.map fun x=>(x.1,a.eval x.2))=some cur'∧aG m S w sz cur' (.row sz es')∧es'.length=es.length∧cur'.size=cur.size :=
  fun hall hpq e=>iY hall (hpq.weak fun _ _ _ _ h1=>⟨h1.1,(h.operand h1.2).1⟩) e
theorem mL {sz:Nat} {es:List D} {cur:Array Value} {ty:TypeId} {cap:Nat} (h:Inv G N Sin w0 σ a w S m) (hc:aG m S w sz cur (.row sz es)) (hcap:es.length≤cap) (hmax:cap≤maxLen) :
    Reads (fun b i=>S b i∨b=w.heap.size) (w.alloc (.cells cur ty)) (.slice (some ⟨w.heap.size,0,none⟩) es.length cap) (.sl es):=by
  have k:=aw.alloc h (.cells cur ty);refine Reads.of_row (sz:=sz) (fun i hi=>?_) hcap hmax;obtain⟨h1,h2⟩:=hc.2 i hi;refine⟨h1,fun j hj=>?_⟩;obtain⟨v,h3,h4⟩:=h2 j hj;refine⟨v,.inr rfl,?_,(h4.keep k).mono fun _ _ h=>.inl h⟩
  show (w.alloc _).cell? ⟨w.heap.size,0+i*sz+j,none⟩=_
  rw[fN,Nat.zero_add];exact h3
theorem vB (t e:TypeId) {s b:Nat} {z:D} (ht:bU P t=some (e,s,b,z)) (n:Nat) (hn:n*s≤2^24) (ps:Array (Nat×Operand)) (ho:o.op=.buildSlice t n ps) (own:Bool) {qs:List (Nat×SX)} (hq:ab (fun p q=>p.1=q.1∧ai p.2=some q.2) ps.toList qs)
    (h:Inv G N Sin w0 σ a w S m) (hd:∀ t,o.dst=some t→t<N∧w0.fx t=none) {r:R} (hr:ef (ev G σ.f) σ.h σ.u (o.dst.getD 0) (.bldSl own n s z qs)=some r) (hK:K (σ.put o.dst r)):o.wp P a w (Nx G N Sin w0 K) Q:=by
  obtain⟨hu0,he⟩:=dD ht;obtain⟨i,zv,hi,hs,hb,hz,hpos,hlen,hrd⟩:=dq he;have hn2:n≤16777216:=by
    have:=Nat.le_mul_of_pos_right n hpos;have:(2:Nat)^24=16777216:=by decide
    omega
  simp only[ef] at hr;split at hr
  ·cases hr
  ·rename_i es hes;have h0:=gD (m:=m) (S:=S) (w:=w) (e:=e) (b:=b) (zv:=zv) hrd hlen hpos n n (y8 _) s;obtain⟨cur,g1,g2,g3,g4⟩:=wq h h0 hq hes;rw[zG] at g3;rw[size_madeCells] at g4
   have hn3:¬ 16777216<n*s:=by have:(2:Nat)^24=16777216:=by decide
                               omega
   have run:(execOp a.eval o).run P w=.ok (.value (.slice (some ⟨w.heap.size,0,none⟩) n n)) (w.alloc (.cells cur e)):=by
     simp only[execOp,ho];refine aL ?_;have hfill:Instr.fill (fun i=>some (i*s,s)) (madeCells zv.cells (n*s)) ((ps.map fun x=>(x.1,a.eval x.2)).toList)=some cur:=by
       rw[← g1]; congr 1; simp
     by_cases hns:n*s=0
     ·have hfill':Instr.fill (fun i=>some (i*s,s)) #[] (List.map (fun x=>(x.1,a.eval x.2)) ps.toList)=some cur:=by
        rw[← hfill,hns];simp[madeCells,Array.range_zero']
      simp[Instr.buildSlice,run_underlying hu0,sizeOf,typeInfo,hi,hs,hns,newRow,hfill',Array.range_zero']
     ·have hfill':Instr.fill (fun i=>some (i*s,s)) (Array.map (fun x=>zv.cells[x%zv.cells.size]!) (Array.range (n*s))) (List.map (fun x=>(x.1,a.eval x.2)) ps.toList)=some cur:=by
        rw[← hfill];simp[madeCells]
      simp[Instr.buildSlice,run_underlying hu0,sizeOf,typeInfo,hi,hs,hn3,hns,zeroValue,hz,newRow,hfill']
   split at hr
   ·obtain⟨hu,rfl⟩:=cT hr;exact fb (sz:=s) (ob:=.row s es) (c:=.own (8*o.dst.getD 0) s 0 n) h hd hu rfl (dE _) g2 (fun j hj=>by cases hj) run (g8 (y8 _) (by simp only[maxLen]; omega) (by rw[g4]; exact y8 _)) rfl hK
   ·rename_i hown;cases hr;by_cases hn0:n=0
    ·subst hn0;exact bd (h':=σ.h) (u':=σ.u) (h.newRo _) hd run (x:=.w (.c .nil)) ⟨_,rfl⟩ (fun i hi=>by cases hi) hK
    rw[if_neg hn0] at hK;have hr2:=mL (ty:=e) (cap:=n) h g2 (by omega) (by simp only[maxLen]; omega);rw[g3] at hr2;exact bd (h':=σ.h) (u':=σ.u) (h.newRo _) hd run (x:=vd (.sl es)) (hr2.rw (m:=m)) (fun i hi=>by cases hi) hK
theorem Inv.rename (h:Inv G N Sin w0 σ a w S m) {id id':Nat} {ob:Ob} (ho:σ.h id=some ob) (hu:σ.u id'=false) (hbox:ob.ids=[]) :
    Inv G N Sin w0 ⟨σ.f,upd (upd σ.h id none) id' (some ob),upd σ.u id' true⟩ a w S (upd m id' (m id)):=by
  have hob:=h.obj id ob ho;have hne:id≠id':=fun e=>by rw[← e,hob.2.1] at hu; cases hu
  have hm:∀ i,σ.u i=true→upd m id' (m id) i=m i:=fun i hi=>by
    unfold upd; rw[if_neg (fun e=>by rw[e,hu] at hi; cases hi)]
  have huu:∀ i,σ.u i=true→upd σ.u id' true i=true:=fun i hi=>by unfold upd; split <;> simp_all
  have sub:∀ i o,i≠id'→upd (upd σ.h id none) id' (some ob) i=some o→i≠id∧σ.h i=some o:=fun i o hi g=>by
    simp only[upd,hi,if_false] at g;split at g
    ·cases g
    ·rename_i e; exact⟨e,g⟩
  refine h.move (aw.refl _ _) (aY.refl _) (fun _ _ h=>h) hm huu (fun i o' g=>?_) (fun i j b s s' h1 h2 h3 h4=>?_) h.sin h.below
  ·by_cases e:i=id'
   ·subst e;simp only[upd,if_true,yY] at g;subst g;refine⟨?_,by simp[upd],fun j hj=>by rw[hbox] at hj; cases hj⟩;have h1:=hob.1;unfold aA at *
    simp only[upd,if_true];split at h1
    ·exact h1
    ·rename_i b s hmi;obtain⟨q1,q2,q3,cur,ty,fz,q4,q5,q6⟩:=h1;exact⟨q1,q2,q3,cur,ty,fz,q4.step (aw.refl _ _) (fun _ _ h=>h) (fun j hj=>by rw[hbox] at hj; cases hj) rfl,q5,q6.step (aw.refl _ _) (fun _ _ h=>h) fun j hj=>by rw[hbox] at hj; cases hj⟩
   ·obtain⟨_,g'⟩:=sub i o' e g;have h1:=h.obj i o' g';exact⟨h1.1.step (aw.refl _ _) (fun _ _ h=>h) (fun j hj=>hm j (h1.2.2 j hj)) (hm i h1.2.1) fun b s hb=>⟨rfl,h1.1.apart hb⟩,huu i h1.2.1,fun j hj=>huu j (h1.2.2 j hj)⟩
  ·have red:∀ i,upd (upd σ.h id none) id' (some ob) i≠none→upd m id' (m id) i=some (b,s)∨upd m id' (m id) i=some (b,s')→∃ k s2,σ.h k≠none∧m k=some (b,s2)∧(if i=id' then k=id else k=i∧i≠id):=by
     intro i g g2;by_cases e:i=id'
     ·subst e;refine⟨id,?_⟩;simp only[upd,if_true] at g2;rcases g2 with g2 | g2
      ·exact⟨s,by rw[ho]; simp,g2,by simp⟩
      ·exact⟨s',by rw[ho]; simp,g2,by simp⟩
     ·obtain⟨o',ho'⟩:=y7.1 g;obtain⟨g3,g4⟩:=sub i o' e ho';refine⟨i,?_⟩;simp only[upd,e,if_false] at g2;rcases g2 with g2 | g2
      ·exact⟨s,by rw[g4]; simp,g2,by simp[e,g3]⟩
      ·exact⟨s',by rw[g4]; simp,g2,by simp[e,g3]⟩
   obtain⟨k1,s1,a1,a2,a3⟩:=red i h1 (.inl h3);obtain⟨k2,s2,b1,b2,b3⟩:=red j h2 (.inr h4);have hk:=h.inj k1 k2 b s1 s2 a1 b1 a2 b2;by_cases e1:i=id'
   ·by_cases e2:j=id'
    ·rw[e1,e2]
    ·rw[if_pos e1] at a3; rw[if_neg e2] at b3; omega
   ·by_cases e2:j=id'
    ·rw[if_neg e1] at a3; rw[if_pos e2] at b3; omega
    ·rw[if_neg e1] at a3; rw[if_neg e2] at b3; omega
theorem mM {sz:Nat} {es:List D} (h:∀ e∈es,e.cells.length=sz) {off n:Nat} (hle:off+n≤es.length):((es.drop off).take n).flatMap D.cells=((es.flatMap D.cells).drop (off*sz)).take (n*sz):=by
  have e1:es.flatMap D.cells=(es.take off).flatMap D.cells++(es.drop off).flatMap D.cells:=by rw[← zO,List.take_append_drop]
  have l1:((es.take off).flatMap D.cells).length=off*sz:=by
    rw[cx fun e he=>h e (zH he),zg]; congr 1; omega
  have e2:(es.drop off).flatMap D.cells=((es.drop off).take n).flatMap D.cells++((es.drop off).drop n).flatMap D.cells:=by rw[← zO,List.take_append_drop]
  have l2:(((es.drop off).take n).flatMap D.cells).length=n*sz:=by
    rw[cx fun e he=>h e (zU (zH he)),zg,zz]; congr 1; omega
  rw[e1,← l1,List.drop_left,e2,← l2,List.take_left]
theorem mN:∀ {es:List D} {us:List Value},ab (Reads S w) us es→es.flatMap D.cells=es
  | _,_,.nil=>rfl
  | _,_,.cons h1 h2=>by rw[y4,mN h2,h1.cellsOf]; rfl
theorem uX (h:Inv G N Sin w0 σ a w S m) {v:Value} {id sz off n:Nat} (hv:aC m w v id sz off n) {ob:Ob} (ho:σ.h id=some ob) {es:List D} (e:bI ob off n=some es) :
    (v=.slice none 0 0∧es=[]∧n=0)∨∃ ad cap news,v=.slice (some ad) n cap∧es.length=n∧ab (Reads S w) news (es.flatMap D.cells)∧(∀ e∈es,e.cells.length=sz)∧∀ j u,news[j]?=some u→w.cell? (ad.add j)=some u:=by
  have hk:=(h.obj id ob ho).1;unfold aC at hv;unfold aA at hk;split at hv
  ·rename_i hm;rw[hm] at hk;obtain⟨s,rfl⟩:=hk;obtain⟨⟨ad,rfl⟩,rfl,rfl⟩:=hv;simp only[bI] at e;split at e
   ·cases e;cases ad with
    | none=>exact .inl ⟨rfl,rfl,rfl⟩
    | some ad=>exact .inr ⟨ad,0,[],rfl,rfl,.nil,fun e he=>(by cases he),fun j u hj=>by simp at hj⟩
   ·cases e
  ·rename_i b sz' hm;rw[hm] at hk;obtain⟨rfl,ad,cap,ty,M,rfl,h2,h3,h4,h5,h6⟩:=hv;obtain⟨k1,k2,k3,cur,ty',fz,k4,k5,k6⟩:=hk;have addr:∀ j,0<cap→ad.add j=⟨b,off*sz'+j,none⟩:=fun j hc=>by rw[h4 (.inl hc),bX]
   cases ob with
   | mp q es'=>cases e
   | it q l p=>cases e
   | row s es' =>
     simp only[Ob.sz] at k1;subst k1;simp only[bI] at e;split at e
     ·rename_i hle;cases e;obtain⟨q1,q2⟩:=iQ k6;have hlen:((es'.drop off).take n).length=n:=by rw[zg,zz]; omega
      have hsz:∀ x∈(es'.drop off).take n,x.cells.length=s:=fun x hx=>q1 x (zU (zH hx))
      have hall:=(q2.drop (off*s)).take (n*s);refine .inr ⟨ad,cap,((cur.toList.take (es'.length*s)).drop (off*s)).take (n*s),rfl,hlen,by rw[mM q1 hle]; exact hall,hsz,fun j u hj=>?_⟩;have hjn:j<n*s:=by
        have:=(y6.1 hj).1;rw[zg] at this;omega
      have hn:0<n:=by
        rcases zJ n with h0 | h0
        ·rw[h0] at hjn; simp at hjn
        ·exact h0
      rw[addr j (by omega),cell_of_row w b _ cur ty' fz k4];rw[zp,if_pos hjn,zW,zp] at hj;split at hj
      ·simpa using hj
      ·cases hj
     ·cases e
   | box cs =>
     simp only[Ob.sz] at k1;subst k1;simp only[bI] at e;split at e
     ·rename_i hle;have hall:=gR e;have hb:=((mG k6).drop off).take n;rw[hall] at hb;have hb':ab (Reads S w) (((cur.toList.take cs.length).drop off).take n) es:=by
        have hl:=hb.length;rw[zq] at hl;refine .mk hl fun i g1 g2=>?_
        have:=hb.get i g1 (by rw[zq]; exact g2);rw[zk] at this;exact this
      have hlen:es.length=n:=by
        have:=congrArg List.length hall;rw[zg,zz,zq] at this;omega
      refine .inr ⟨ad,cap,_,rfl,hlen,by rw[mN hb']; exact hb',fun x hx=>?_,fun j u hj=>?_⟩
      ·obtain⟨i,hi,rfl⟩:=zr hx;have:=(hb'.get i (by rw[hb'.length]; exact hi) hi).cellsOf;rw[this]; rfl
      ·have hjn:j<n:=by
         have:=(y6.1 hj).1;rw[zg] at this;omega
       rw[addr j (by omega),cell_of_row w b _ cur ty' fz k4];rw[zp,if_pos hjn,zW,zp] at hj;split at hj
       ·simpa using hj
       ·cases hj
     ·cases e
theorem lA (h:Inv G N Sin w0 σ a w S m) {v:Value} {x:V} (hv:RV m S w v x) {ys:List D} (e:bK σ.h x=some (.sl ys)) {s:Nat} (hsz:bM s ys=true) :
    (v=.slice none 0 0∧ys=[])∨∃ ad cap news,v=.slice (some ad) ys.length cap∧ab (Reads S w) news (ys.flatMap D.cells)∧∀ j u,news[j]?=some u→w.cell? (ad.add j)=some u:=by
  unfold bK at e;split at e
  ·rename_i c
   ·cases c <;> simp only[a4,bg] at e <;> first | (cases e; done) | skip
    ·cases e;have hv':Reads S w v (.sl ys):=hv;rcases hv'.row with h1 | ⟨ad,cap,sz',h1,h2,h3,h4⟩
     ·exact .inl h1
     ·obtain⟨us,hall,hcell⟩:=(h4.size (ez hsz)).flat.list;exact .inr ⟨ad,cap,us,h1,hall,hcell⟩
    ·cases e;obtain⟨ad,rfl⟩:∃ ad,v=.slice ad 0 0:=hv
     cases ad with
     | none=>exact .inl ⟨rfl,rfl⟩
     | some ad=>exact .inr ⟨ad,0,[],rfl,.nil,fun j u hj=>by simp at hj⟩
    ·split at e
     ·rename_i ob ho;simp only[yX] at e;obtain⟨es,he,e2⟩:=e;cases e2;rcases uX h hv ho he with ⟨h1,h2,_⟩ | ⟨ad,cap,news,h1,h2,h3,_,h4⟩
      ·exact .inl ⟨h1,h2⟩
      ·exact .inr ⟨ad,cap,news,by rw[h2]; exact h1,h3,h4⟩
     ·cases e
    ·unfold df at e;split at e
     ·split at e
      ·simp only[yX] at e;obtain⟨_,_,e2⟩:=e;cases e2
      ·cases e
     ·cases e
    ·split at e
     ·simp only[yX] at e;obtain⟨_,_,e2⟩:=e;cases e2
     ·cases e
  ·simp only[yX] at e;obtain⟨_,_,e2⟩:=e;cases e2
  ·cases e
theorem src_ok (h:Inv G N Sin w0 σ a w S m) {u e:TypeId} {s:Nat} {str:Bool} (hu:(str=false∧P.underlying u=some (.slice e))∨(str=true∧P.underlying u=some .string∧s=1)) {v:Value} {x:V} (hv:RV m S w v x) {ys:List D} (e1:dh σ.h str x=some ys) (hsz:bM s ys=true) :
    ∃ news,Src P s u v ys.length news w∧ab (Reads S w) news (ys.flatMap D.cells):=by
  unfold dh at e1;split at e1
  ·rename_i st;cases e1;obtain⟨hus,rfl⟩:P.underlying u=some .string∧s=1:=by
     rcases hu with hu | hu
     ·cases hu.1
     ·exact hu.2
   rw[eD hv];refine⟨byteCells st,?_,?_⟩
   ·have:=Src.ofString (P:=P) w hus st;have hl:(st.data.toList.map bD).length=st.size:=by simp
    rw[hl]; exact this
   ·have e2:∀ l:List UInt8,(l.map bD).flatMap D.cells=l.map bD:=by
      intro l
      induction l with
      | nil=>rfl
      | cons b r ih=>simp only[y5,y4]; rw[ih]; rfl
    rw[e2];refine .mk (by simp[byteCells]) fun i g1 g2=>?_
    simp only[byteCells,zk];exact .int _ _
  ·split at e1
   ·rename_i ys' hy;cases e1;have hkind:P.underlying u=some (.slice e):=by
      rcases hu with hu | hu
      ·exact hu.2
      ·cases hu.1
    rcases lA h hv hy hsz with ⟨h1,rfl⟩ | ⟨ad,cap,news,h1,hall,hcell⟩
    ·rw[h1];exact⟨[],Src.ofNil w hkind 0,.nil⟩
    ·refine⟨news,?_,hall⟩;rw[h1];refine Src.ofSlice w hkind ad ys.length cap news ?_ hcell fun u hu'=>?_
     ·rw[hall.length,cx (ez hsz)]
     ·obtain⟨j,hj,rfl⟩:=zr hu';exact (hall.get j hj (by rw[← hall.length]; exact hj)).oneCell
   ·cases e1
  ·cases e1
theorem kD {s:Nat} {es ys:List D} (h1:∀ e∈es,e.cells.length=s) (h2:∀ e∈ys,e.cells.length=s):∀ e∈es++ys,e.cells.length=s:=by
  intro e he;rcases ze.1 he with he | he
  ·exact h1 e he
  ·exact h2 e he
theorem xZ {s:Nat} {es ys:List D} {cur:Array Value} (h:aG m S w s cur (.row s es)) (hys:∀ e∈ys,e.cells.length=s) {news:List Value} (hall:ab (Reads S w) news (ys.flatMap D.cells)) (hle:(es.length+ys.length)*s≤cur.size):aG m S w s (bP cur (es.length*s) news) (.row s (es++ys)):=by
  obtain⟨h1,h2⟩:=iQ h;have hl:=hall.length;rw[cx hys] at hl;rw[zm] at hle;refine kw (kD h1 hys) (by rw[cw,zt,zm]; exact hle) ?_;rw[zO,zt,zm];have e1:(bP cur (es.length*s) news).toList.take (es.length*s+ys.length*s)=cur.toList.take (es.length*s)++news:=by
    have hcl:cur.toList.length=cur.size:=zN;have htl:(cur.toList.take (es.length*s)).length=es.length*s:=by rw[zg,hcl]; omega
    apply List.ext_getElem?;intro i;rw[zp];by_cases h3:i<es.length*s
    ·rw[if_pos (by omega),List.getElem?_append_left (by omega),zp,if_pos h3,zw,zw,dp _ _ _ _ (.inl h3)]
    ·rw[List.getElem?_append_right (by omega),htl];by_cases h4:i<es.length*s+ys.length*s
     ·rw[if_pos h4,zw];have:=dF news cur (es.length*s) (i-es.length*s) (by omega) (by omega);rw[show es.length*s+(i-es.length*s)=i by omega] at this;rw[this,yZ]
     ·rw[if_neg h4,List.getElem?_eq_none (by omega)]
  rw[e1];exact h2.append hall
theorem x3 {s:Nat} {es:List D} (hes:∀ e∈es,e.cells.length=s) {news:List Value} (hall:ab (Reads S w) news (es.flatMap D.cells)) (rest:Array Value):aG m S w s (news.toArray++rest) (.row s es):=by
  have hl:=hall.length;rw[cx hes] at hl;refine kw hes (by simp; omega) ?_;have:(news.toArray++rest).toList.take (es.length*s)=news:=by
    rw[Array.toList_append,← hl];simp
  rw[this];exact hall
theorem ku (ad:Option Addr) (s:Nat) (w:World):(Builtin.firstCells s 0 (.slice ad 0 0)).run P w=.ok ([]:List Value).toArray w:=by
  cases ad with
  | none=>exact run_firstCells_none _ _ _ _ _
  | some ad=>exact run_firstCells_some w s 0 ad 0 0 [] (by simp) fun j v hj=>by simp at hj
theorem o6 (t e u:TypeId) {s b:Nat} {z:D} (ht:bU P t=some (e,s,b,z)) {str:Bool} (hu:(str=false∧P.underlying u=some (.slice e))∨(str=true∧P.underlying u=some .string∧s=1)) (x y:Operand) (x' y':SX) (c:Call) (ho:o.op=.call c) (hc:c.callee=.builtin .append) (hts:c.argTypes.toList=[t,u]) (hargs:c.args.toList=[x,y]) (hx:ai x=some x') (hy:ai y=some y')
    (h:Inv G N Sin w0 σ a w S m) (hd:∀ t,o.dst=some t→t<N∧w0.fx t=none) {r:R} (hr:ef (ev G σ.f) σ.h σ.u (o.dst.getD 0) (.app str s b x' y')=some r) (hK:K (σ.put o.dst r)):o.wp P a w (Nx G N Sin w0 K) Q:=by
  obtain⟨hu0,he⟩:=dD ht;obtain⟨i,zv,hi,hs,hb,hz,hpos,hlen,hrd⟩:=dq he;have e1:c.argTypes=#[t,u]:=by apply Array.ext'; simpa using hts
  have e2:c.args=#[x,y]:=by apply Array.ext'; simpa using hargs
  have h1:=h.operand hx;have h2:=h.operand hy;have hexec:∀ v w',(Builtin.append_ #[t,u] o.type #[a.eval x,a.eval y]).run P w=.ok v w'→(execOp a.eval o).run P w=.ok (.value v) w':=fun v w' hv=>by
    simp only[execOp,ho,resolve,hc,invoke,builtin,e1,e2];simp[hv]
  simp only[ef] at hr;split at hr
  ·cases hr
  ·rename_i ys hys;split at hr
   ·rename_i hsz;obtain⟨news,hsrc,hall⟩:=src_ok h hu h2.1 hys hsz;have hysz:=ez hsz;have hnl:=hall.length;rw[cx hysz] at hnl
    have grow:∀ (base:Option Addr) (n cap:Nat) (es:List D) (olds:List Value),a.eval x=.slice base n cap→(∀ e∈es,e.cells.length=s)→es.length=n→ab (Reads S w) olds (es.flatMap D.cells)→(Builtin.firstCells s n (.slice base n cap)).run P w.drew=.ok olds.toArray w.drew →
        cap<n+ys.length→(n+ys.length)*b≤140737488355328→n+ys.length≤140737488355328→∀ (h0:ah),(∃ id,h0=upd σ.h id none)∨h0=σ.h→σ.u (8*o.dst.getD 0)=false →
        K (σ.put o.dst (.w (.c (.own (8*o.dst.getD 0) s 0 (es++ys).length)),upd h0 (8*o.dst.getD 0) (some (.row s (es++ys))),upd σ.u (8*o.dst.getD 0) true))→o.wp P a w (Nx G N Sin w0 K) Q:=by
      intro base n cap es olds hval hes hesn holds hfc hlt hby h47 h0 hh0 huu hK';have run:=run_append_grow_src (P:=P) w t u o.type e i zv hu0 hi hz base n cap olds (by rw[hs]; exact hfc) (a.eval y) ys.length news (by rw[hs]; exact hsrc) hlt (by omega) (by rw[hb]; exact growslice_fits hlt hby);have hI0:Inv G N Sin w0 ⟨σ.f,h0,σ.u⟩ a w.drew S m:=by
        rcases hh0 with ⟨id,rfl⟩ | rfl
        ·exact (h.kill id).drew
        ·exact h.drew
      have hge:=grownCap_ge w (n+ys.length) cap e;have hcm:=grownCap_le_maxLen w (n+ys.length) cap e (by simp only[maxLen]; omega);have hcell:aG m S w.drew s ((olds++news).toArray++Builtin.zeroCells zv.cells (grownCap w (n+ys.length) cap e-(n+ys.length))) (.row s (es++ys)) :=
        x3 (w:=w.drew) (kD hes hysz) (by rw[zO]; exact ((holds.append hall).weak fun _ _ _ _ h=>h.keep ⟨fun _ _ _ _ h=>h,fun _ _ h=>h,fun _ _ _ _ _ h=>h⟩)) _
      have hzs:zv.cells.size=s:=by have:=(hrd S w).length; rw[hlen] at this; simpa using this
      have hol:=holds.length;rw[cx hes,hesn] at hol;have hsize:((olds++news).toArray++Builtin.zeroCells zv.cells (grownCap w (n+ys.length) cap e-(n+ys.length))).size=grownCap w (n+ys.length) cap e*s:=by
        rw[Array.size_append,List.size_toArray,zt,size_zeroCells,hzs,hol,hnl,← zm,← zm]
        congr 1; omega
      refine o0 (σ:=⟨σ.f,h0,σ.u⟩) (sz:=s) (ob:=.row s (es++ys)) (c:=.own (8*o.dst.getD 0) s 0 (es++ys).length) hI0 hd huu rfl (dE _) hcell (fun j hj=>by cases hj) (hexec _ _ (by rw[hval]; exact run)) ?_ rfl hK';have hel:(es++ys).length=n+ys.length:=by rw[zt,hesn]
      rw[hel];exact g8 (w:=w.drew) hge hcm (by rw[hsize]; exact y8 _)
    split at hr
    ·rename_i ex;split at hr
     ·rename_i hcond;obtain⟨huu,rfl⟩:=cT hr;rw[ex] at h1;obtain⟨ad0,hval⟩:∃ ad,a.eval x=.slice ad 0 0:=h1.1
      rcases zJ ys.length with h0 | h0
      ·have hy0:ys=[]:=zE h0;subst hy0;have hn0:news=[]:=zE (by rw[hnl]; simp);subst hn0;have run:(Builtin.append_ #[t,u] o.type #[a.eval x,a.eval y]).run P w=.ok (.slice ad0 0 0) w:=by
         rw[hval];have hl0:=hsrc.len w;have hc0:=hsrc.cells;simp only[List.length_nil] at hl0 hc0;rcases hsrc.kind with ⟨e',hk⟩ | hk <;> cases ad0 <;> simp[Builtin.append_,run_underlying hu0,run_underlying hk,sizeOf,typeInfo,hi,hs,hl0,hc0,storeCells]
       refine bd (h.newNil (sz:=s) huu) hd (hexec _ _ run) (x:=.w (.c (.own (8*o.dst.getD 0) s 0 0))) ?_ (fun i hi=>?_) hK
       ·show aC _ _ _ _ _ _ _
        unfold aC;simp only[upd,if_true];exact⟨⟨_,rfl⟩,trivial,trivial⟩
       ·have:i∈[8*o.dst.getD 0]:=hi;simp only[zj] at this;simp[upd,this]
      ·exact grow ad0 0 0 [] [] hval (fun e he=>by cases he) rfl .nil (ku _ _ _) (by omega) (by simpa using hcond.1) (by simpa using hcond.2) σ.h (.inr rfl) huu hK
     ·cases hr
    ·rename_i id sz' off n ex;split at hr
     ·rename_i szr es hob;split at hr
      ·rename_i hcond;obtain⟨rfl,rfl,rfl,hby,h47⟩:=hcond;obtain⟨huu,rfl⟩:=cT hr;rw[ex] at h1;have hobj:=h.obj id _ hob;have hv':aC m w (a.eval x) id sz' 0 es.length:=h1.1;have hk:=hobj.1;unfold aC at hv';unfold aA at hk;split at hv'
       ·rename_i hm;rw[hm] at hk;obtain⟨s2,hrow⟩:=hk;cases hrow;obtain⟨⟨ad0,hval⟩,_,_⟩:=hv';rcases zJ ys.length with h0 | h0
        ·have hy0:ys=[]:=zE h0;subst hy0;have hn0:news=[]:=zE (by rw[hnl]; simp);subst hn0;have run:(Builtin.append_ #[t,u] o.type #[a.eval x,a.eval y]).run P w=.ok (.slice ad0 0 0) w:=by
           rw[hval];have hl0:=hsrc.len w;have hc0:=hsrc.cells;simp only[List.length_nil] at hl0 hc0;rcases hsrc.kind with ⟨e',hk⟩ | hk <;> cases ad0 <;> simp[Builtin.append_,run_underlying hu0,run_underlying hk,sizeOf,typeInfo,hi,hs,hl0,hc0,storeCells]
         refine bd ((h.kill id).newNil (sz:=szr) huu) hd (hexec _ _ run) (x:=.w (.c (.own (8*o.dst.getD 0) szr 0 0))) ?_ (fun i hi=>?_) hK
         ·show aC _ _ _ _ _ _ _
          unfold aC;simp only[upd,if_true];exact⟨⟨_,rfl⟩,trivial,trivial⟩
         ·have:i∈[8*o.dst.getD 0]:=hi;simp only[zj] at this;simp[upd,this]
        ·exact grow ad0 0 0 [] [] hval (fun e he=>by cases he) rfl .nil (ku _ _ _) (by omega) (by simpa using hby) (by simpa using h47) _ (.inl ⟨id,rfl⟩) huu hK
       ·rename_i bb sz2 hm;rw[hm] at hk;obtain⟨rfl,ad,cap,ty,M,hval,g2,g3,g4,g5,g6⟩:=hv';obtain⟨k1,k2,k3,cur,ty',fz,k4,k5,k6⟩:=hk;simp only[Ob.sz] at k1;subst k1;have hM:M=cur.size:=by
          unfold World.shape? at g5;rw[k4] at g5;simp only[yY,Prod.mk.injEq] at g5;exact g5.2.symm
        subst hM;obtain⟨hes,hflat⟩:=iQ k6;by_cases hroom:es.length+ys.length≤cap
        ·
         have hfit:(es.length+ys.length)*szr≤cur.size:=zy (zd _ hroom) (by simpa using g6);have hfit':=hfit;rw[zm] at hfit';have run:(Builtin.append_ #[t,u] o.type #[a.eval x,a.eval y]).run P w=.ok (.slice (some ad) (es.length+ys.length) cap) (w.setCells bb (es.length*szr) news):=by
           rw[hval];rcases zJ cap with hc0 | hc0
           ·subst hc0;have hy0:ys=[]:=zE (by omega);have he0:es.length=0:=by omega
            subst hy0;have hn0:news=[]:=zE (by rw[hnl]; simp);subst hn0;rw[he0];have hl0:=hsrc.len w;have hc0:=hsrc.cells;simp only[List.length_nil] at hl0 hc0;rcases hsrc.kind with ⟨e',hk⟩ | hk <;> simp[Builtin.append_,run_underlying hu0,run_underlying hk,sizeOf,typeInfo,hi,hs,hl0,hc0,storeCells,World.setCells]
           ·have:=run_append_room_src (P:=P) w t u o.type e i hu0 hi bb 0 es.length cap (a.eval y) ys.length news (by rw[hs]; exact hsrc) hroom (fun j hj=>by
              rw[hs,cell_of_row w bb _ cur ty' fz k4];have:0+es.length*szr+j<cur.size:=by omega
              simp only[Array.getElem?_eq_getElem this,Option.isSome_some]) (fun j hj=>iX k4 k5 (by rw[hs]; omega))
            rw[hs] at this;have had:=g4 (.inr rfl);simp only[Nat.zero_mul] at had;rw[had]
            simpa using this
         have hI:=h.write (w':=w.setCells bb (es.length*szr) news) (o':=.row szr (es++ys)) hob hm rfl k4 (eW news _ w cur k4) (cw _ _ _) (fun k hk=>fJ news _ w k hk) (xZ k6 hysz hall hfit) (fun j hj=>by cases hj) (fK k2 news _ w h.below) (setCells_size news _ w);have hI2:=hI.rename (id:=id) (id':=8*o.dst.getD 0) (ob:=.row szr (es++ys)) (by simp[upd]) huu rfl;have hcol:upd (upd σ.h id (some (.row szr (es++ys)))) id none=upd σ.h id none:=by
           funext k; simp only[upd]; split <;> rfl
         rw[hcol,hm] at hI2;refine bd hI2 hd (hexec _ _ run) (x:=.w (.c (.own (8*o.dst.getD 0) szr 0 (es++ys).length))) ?_ (fun i hi=>?_) hK
         ·show aC _ _ _ _ _ _ _
          unfold aC;simp only[upd,if_true];refine⟨trivial,ad,cap,ty',cur.size,by rw[zt],by rw[zt]; omega,g3,fun _=>g4 (.inr rfl),?_,g6⟩;unfold World.shape?;rw[eW news _ w cur k4];simp only[cw]
         ·have:i∈[8*o.dst.getD 0]:=hi;simp only[zj] at this;simp[upd,this]
        ·
         refine grow (some ad) es.length cap es (cur.toList.take (es.length*szr)) hval hes rfl hflat ?_ (by omega) hby h47 _ (.inl ⟨id,rfl⟩) huu hK;have hle:=k6.1;have hcl:cur.toList.length=cur.size:=zN;refine run_firstCells_some w.drew szr es.length ad es.length cap _ (by rw[zg,hcl]; omega) fun j v hj=>?_
         have hjl:j<es.length*szr:=by
           have:=(y6.1 hj).1;rw[zg] at this; omega
         have hpos2:0<cap:=by
           rcases zJ es.length with h0 | h0
           ·rw[h0] at hjl; simp at hjl
           ·omega
         have had:=g4 (.inr rfl);simp only[Nat.zero_mul] at had;rw[had,bX]
         show w.cell? _=_
         rw[cell_of_row w bb _ cur ty' fz k4];rw[zp,if_pos hjl] at hj
         simpa using hj
      ·cases hr
     ·cases hr
    ·cases hr
   ·cases hr
theorem o7 {ρ:SX→V} {h:ah} {u:Nat→Bool} {dst:Nat} {str:Bool} {s b:Nat} {x y:SX} {r:R} (e:ef ρ h u dst (.appN str s b x y)=some r):ef ρ h u dst (.app str s b x y)=some r:=by
  simp only[ef] at e ⊢;split at e
  ·cases e
  ·split at e
   ·rename_i hsz;rw[if_pos hsz];split at e
    ·rename_i hx;simp only[hx];exact e
    ·cases e
   ·cases e
end
section
variable {P:Program} {G:au} {N:Nat} {Sin:ae} {w0:Gh} {σ:St} {a:Act} {w:World} {S:ae} {m:Mp} {o:Oper} {K:St→Prop} {Q:Exit→Act→World→Prop}
theorem wu (h:ah) (id:Nat) {ob:Ob} (e:h id=some ob):upd h id (some ob)=h:=by
  funext k
  unfold upd;split
  ·rename_i hk; rw[hk,e]
  ·rfl
theorem xk {s s':Nat} {es ys:List D} {cur:Array Value} (h:aG m S w s cur (.row s' es)) (hys:∀ e∈ys,e.cells.length=s) {off:Nat} (hle:off+ys.length≤es.length) {news:List Value} (hall:ab (Reads S w) news (ys.flatMap D.cells)):aG m S w s (bP cur (off*s) news) (.row s' (bo es off ys)):=by
  obtain⟨h1,h2⟩:=h;have hl:=hall.length;rw[cx hys] at hl;have hfit:off*s+ys.length*s≤cur.size:=by
    rw[← zm];exact zy (zd _ hle) h1
  have hlen:=fM es off ys hle;refine⟨by rw[hlen,cw]; exact h1,fun i hi=>?_⟩;have hg:=fS es off ys hle i;rw[yZ hi] at hg;rw[hlen] at hi;by_cases hin:off≤i∧i<off+ys.length
  ·rw[if_pos hin,yZ (by omega),yY] at hg;rw[hg];have hc:=hys ys[i-off] (zx (by omega));refine⟨hc,fun j hj=>?_⟩;have hf:=flat_get hys (i-off) (by omega) j (by omega);rw[yZ hj] at hf;obtain⟨v,h3,h4⟩:=hall.get? hf;obtain⟨h5,h6⟩:=y6.1 h3;refine⟨v,?_,h4⟩;have:=dF news cur (off*s) ((i-off)*s+j) (by omega) h5;rw[h6] at this;have e:off*s+((i-off)*s+j)=i*s+j:=by
     have:off*s+(i-off)*s=i*s:=by rw[← zm]; congr 1; omega
     omega
   rw[← e];exact this
  ·rw[if_neg hin,yZ (by omega),yY] at hg;rw[hg];obtain⟨h3,h4⟩:=h2 i hi;refine⟨h3,fun j hj=>?_⟩;obtain⟨v,h5,h6⟩:=h4 j hj;refine⟨v,?_,h6⟩;rw[dp news cur (off*s) _ ?_]
   ·exact h5
   ·rcases zP i off with hlt | hge
    ·have:=zd s (show i+1≤off by omega);rw[zm] at this;omega
    ·have:=zd s (show off+ys.length≤i by omega);rw[zm] at this;omega
theorem kz {b off:Nat} {us:List Value} {ad:Addr} (had:0<us.length→ad=⟨b,off,none⟩) (h1:∀ u∈us,u.oneCell'=true) {cur:Array Value} {ty:TypeId} {fz:Nat×Nat} (hc:w.heap[b]?=some (.cells cur ty fz)) (hf:bS cur fz) (hle:off+us.length≤cur.size) :
    (storeCells ad us).run P w=.ok () (w.setCells b off us):=by
  cases us with
  | nil=>rfl
  | cons u r =>
    rw[had (by simp)];have:=run_storeCells_cells (P:=P) b off (u::r) 0 w (fun j hj=>by
      rw[cell_of_row w b _ cur ty fz hc];have:off+0+j<cur.size:=by omega
      simp only[Array.getElem?_eq_getElem this,Option.isSome_some]) (fun j hj=>iX hc hf (by omega)) h1
    simpa using this
theorem ww (t e u:TypeId) {s b:Nat} {z:D} (ht:bU P t=some (e,s,b,z)) (hu:P.underlying u=some (.slice e)) (x y:Operand) (x' y':SX) (c:Call) (ho:o.op=.call c) (hc:c.callee=.builtin .copy) (hts:c.argTypes.toList=[t,u]) (hargs:c.args.toList=[x,y]) (hx:ai x=some x') (hy:ai y=some y')
    (h:Inv G N Sin w0 σ a w S m) (hd:∀ t,o.dst=some t→t<N∧w0.fx t=none) {r:R} (hr:ef (ev G σ.f) σ.h σ.u (o.dst.getD 0) (.copy s x' y')=some r) (hK:K (σ.put o.dst r)):o.wp P a w (Nx G N Sin w0 K) Q:=by
  obtain⟨hu0,he⟩:=dD ht;obtain⟨i,zv,hi,hs,hb,hz,hpos,hlen,hrd⟩:=dq he;have e1:c.argTypes=#[t,u]:=by apply Array.ext'; simpa using hts
  have e2:c.args=#[x,y]:=by apply Array.ext'; simpa using hargs
  have h1:=h.operand hx;have h2:=h.operand hy;have hexec:∀ v w',(Builtin.copy_ #[t,u] o.type #[a.eval x,a.eval y]).run P w=.ok v w'→(execOp a.eval o).run P w=.ok (.value v) w':=fun v w' hv=>by
    simp only[execOp,ho,resolve,hc,invoke,builtin,e1,e2];simp[hv]
  simp only[ef] at hr;split at hr
  ·rename_i ys hys;split at hr
   ·rename_i hsz;have hysz:=ez hsz;have hsrc:=lA h h2.1 hys hsz;have first:∀ k,k≤ys.length→∃ news,(Builtin.lenOf (a.eval y)).run P w=.ok ys.length w∧(Builtin.firstCells s k (a.eval y)).run P w=.ok news.toArray w∧ab (Reads S w) news ((ys.take k).flatMap D.cells):=by
      intro k hk;rcases hsrc with ⟨g1,rfl⟩ | ⟨ad,cap,news,g1,g2,g3⟩
      ·rw[g1];have:k=0:=by simpa using hk
       subst this;exact⟨[],rfl,run_firstCells_none _ _ _ _ _,.nil⟩
      ·rw[g1];have hnl:=g2.length;rw[cx hysz] at hnl;have hkl:k*s≤ys.length*s:=zd _ hk;refine⟨news.take (k*s),rfl,run_firstCells_some w s k ad _ cap _ (by rw[zg]; omega) (fun j v hj=>?_),?_⟩
       ·rw[zp] at hj;split at hj
        ·exact g3 j v hj
        ·cases hj
       ·have:=mM hysz (off:=0) (n:=k) (by omega);simp only[List.drop_zero,Nat.zero_mul] at this;rw[this];exact g2.take _
    have one:∀ {news:List Value} {l:List D},ab (Reads S w) news l→∀ u∈news,u.oneCell'=true:=fun hall u hu'=>by
      obtain⟨j,hj,rfl⟩:=zr hu';exact (hall.get j hj (by rw[← hall.length]; exact hj)).oneCell
    split at hr
    ·rename_i ex;cases hr;rw[ex] at h1;obtain⟨ad0,hval⟩:∃ ad,a.eval x=.slice ad 0 0:=h1.1
     obtain⟨news,f1,f2,f3⟩:=first 0 (z0 _)
     have hn0:news=[]:=by simpa using f3.length
     subst hn0;refine bV h hd (hexec _ _ ?_) (.int .i64 0) hK;rw[hval];cases ad0 <;> simp[storeCells,Builtin.copy_,run_underlying hu0,sizeOf,typeInfo,hi,hs,f1,f2,goInt]
    ·rename_i id sz' off n ex;rw[ex] at h1;have hv':aC m w (a.eval x) id sz' off n:=h1.1;obtain⟨news,f1,f2,f3⟩:=first (Nat.min ys.length n) (Nat.min_le_left _ _)
     have htk:ys.take n=ys.take (Nat.min ys.length n):=by
       rcases Nat.le_total n ys.length with g | g
       ·rw[show Nat.min ys.length n=n from Nat.min_eq_right g]
       ·rw[show Nat.min ys.length n=ys.length from Nat.min_eq_left g,zQ g,List.take_length]
     have htl:(ys.take (Nat.min ys.length n)).length=Nat.min ys.length n:=by
       rw[zg]; exact Nat.min_eq_left (Nat.min_le_left _ _)
     have htsz:∀ e∈ys.take (Nat.min ys.length n),e.cells.length=s:=fun e he=>hysz e (zH he)
     have hnl:=f3.length;rw[cx htsz,htl] at hnl;have hkn:Nat.min ys.length n≤n:=Nat.min_le_right _ _;split at hr
     ·rename_i szr es hob;split at hr
      ·rename_i hcond;obtain⟨rfl,hfit⟩:=hcond;cases hr;rw[htk] at hK;have hobj:=h.obj id _ hob;have hk:=hobj.1;unfold aA at hk;unfold aC at hv';split at hv'
       ·rename_i hm;rw[hm] at hk;obtain⟨s2,hrow⟩:=hk;cases hrow;obtain⟨⟨ad0,hval⟩,rfl,rfl⟩:=hv';have hk0:Nat.min ys.length 0=0:=Nat.min_eq_right (z0 _);rw[hk0] at hK f2;have heq:upd σ.h id (some (Ob.row szr (bo [] 0 (ys.take 0))))=σ.h:=wu _ _ (by rw[hob]; simp[bo]);rw[heq] at hK;refine bV h hd (hexec _ _ ?_) (.int .i64 ((0:Nat):Int)) hK;rw[hval];have hk1:Nat.min ys.length 0=0:=hk0;have hn0:news=[]:=by
          have:=f3.length;rw[hk1] at this
          simpa using this
        subst hn0;cases ad0 <;> simp[storeCells,Builtin.copy_,run_underlying hu0,sizeOf,typeInfo,hi,hs,f1,hk1,f2,goInt]
       ·rename_i bb sz2 hm;rw[hm] at hk;obtain⟨rfl,ad,cap,ty,M,hval,g2,g3,g4,g5,g6⟩:=hv';obtain⟨k1,k2,k3,cur,ty',fz,k4,k5,k6⟩:=hk;simp only[Ob.sz] at k1;subst k1;have hle:=k6.1;have hfit2:off*szr+news.length≤cur.size:=by
          rw[hnl,← zm];exact zy (zd _ (by omega)) hle
        have run:(Builtin.copy_ #[t,u] o.type #[a.eval x,a.eval y]).run P w=.ok (.int .i64 (Nat.min ys.length n:Nat)) (w.setCells bb (off*szr) news):=by
          rw[hval];have hst:=kz (P:=P) (ad:=ad) (off:=off*szr) (fun hp=>g4 (by
            rcases zJ cap with h0 | h0
            ·have:n=0:=by omega
             rw[hnl] at hp;have h3:Nat.min ys.length n=0:=by omega
             rw[h3] at hp;simp at hp
            ·exact .inl h0)) (one f3) k4 k5 hfit2
          simp[Builtin.copy_,run_underlying hu0,sizeOf,typeInfo,hi,hs,f1,f2,goInt,hst]
        have hI:=h.write (w':=w.setCells bb (off*szr) news) (o':=.row szr (bo es off (ys.take (Nat.min ys.length n)))) hob hm rfl k4 (eW news _ w cur k4) (cw _ _ _) (fun k hk=>fJ news _ w k hk) (xk k6 htsz (by rw[htl]; omega) f3) (fun j hj=>by cases hj) (fK k2 news _ w h.below) (setCells_size news _ w);exact bd hI hd (hexec _ _ run) (x:=vd (.int .i64 (Nat.min ys.length n:Nat))) (Reads.rw (m:=m) (.int _ _)) (fun i hi=>by cases hi) hK
      ·cases hr
     ·rename_i cs hob;split at hr
      ·rename_i hcond;obtain⟨hs1,hfit⟩:=hcond;cases hr;rw[htk] at hK;have hobj:=h.obj id _ hob;have hk:=hobj.1;unfold aA at hk;unfold aC at hv';split at hv'
       ·rename_i hm;rw[hm] at hk;obtain⟨s2,hrow⟩:=hk;cases hrow
       ·rename_i bb sz2 hm;rw[hm] at hk;obtain⟨rfl,ad,cap,ty,M,hval,g2,g3,g4,g5,g6⟩:=hv';obtain⟨k1,k2,k3,cur,ty',fz,k4,k5,k6⟩:=hk;simp only[Ob.sz] at k1;subst k1;have hle:=k6.1;have hnl1:news.length=Nat.min ys.length n:=by rw[hnl,hs1,Nat.mul_one]
        have hfit2:off+news.length≤cur.size:=by omega
        have run:(Builtin.copy_ #[t,u] o.type #[a.eval x,a.eval y]).run P w=.ok (.int .i64 (Nat.min ys.length n:Nat)) (w.setCells bb off news):=by
          rw[hval];have hst:=kz (P:=P) (ad:=ad) (off:=off) (fun hp=>by
            have:=g4 (by
              rcases zJ cap with h0 | h0
              ·have:n=0:=by omega
               omega
              ·exact .inl h0)
            simpa using this) (one f3) k4 k5 hfit2
          simp[Builtin.copy_,run_underlying hu0,sizeOf,typeInfo,hi,hs,f1,f2,goInt,hst]
        have hfl:((ys.take (Nat.min ys.length n)).flatMap D.cells).length=news.length:=f3.length.symm;have hdl:(((ys.take (Nat.min ys.length n)).flatMap D.cells).map C.d).length=news.length:=by rw[zq,hfl]
        have hlenR:=fM cs off (((ys.take (Nat.min ys.length n)).flatMap D.cells).map C.d) (by omega);have hcells:aG m S w 1 (bP cur off news) (.box (bo cs off (((ys.take (Nat.min ys.length n)).flatMap D.cells).map C.d))):=by
          refine⟨by rw[hlenR,cw]; exact hle,fun j hj=>?_⟩;have hg:=fS cs off (((ys.take (Nat.min ys.length n)).flatMap D.cells).map C.d) (by omega) j;rw[yZ hj] at hg;rw[hlenR] at hj;by_cases hin:off≤j∧j<off+news.length
          ·rw[if_pos (by omega),List.getElem?_map] at hg;have hlt:j-off<((ys.take (Nat.min ys.length n)).flatMap D.cells).length:=by omega
           rw[yZ hlt,Option.map_some,yY] at hg;have h5:j-off<news.length:=by omega
           refine⟨news[j-off],?_,?_⟩
           ·have:=dF news cur off (j-off) (by omega) h5;rw[show off+(j-off)=j by omega] at this;exact this
           ·rw[hg];exact f3.get (j-off) h5 hlt
          ·rw[if_neg (by omega),yZ (by omega),yY] at hg;obtain⟨v,q1,q2⟩:=k6.2 j hj;refine⟨v,?_,by rw[hg]; exact q2⟩;rw[dp news cur off j (by omega)];exact q1
        have hI:=h.write (w':=w.setCells bb off news) (o':=.box (bo cs off (((ys.take (Nat.min ys.length n)).flatMap D.cells).map C.d))) hob hm rfl k4 (eW news _ w cur k4) (cw _ _ _) (fun k hk=>fJ news _ w k hk) hcells
          (mK hobj.2.2 fun j hj=>by
            obtain⟨c,hc1,hc2⟩:=y0.1 hj;obtain⟨d,_,rfl⟩:=za.1 hc1;cases hc2) (fK k2 news _ w h.below) (setCells_size news _ w)
        exact bd hI hd (hexec _ _ run) (x:=vd (.int .i64 (Nat.min ys.length n:Nat))) (Reads.rw (m:=m) (.int _ _)) (fun i hi=>by cases hi) hK
      ·cases hr
     ·cases hr
    ·cases hr
   ·cases hr
  ·cases hr
theorem Inv.killAll (h:Inv G N Sin w0 σ a w S m):∀ cs:List C,∃ S',Inv G N Sin w0 ⟨σ.f,Go.Proofs.Yteohdchecapkfaa.killAll σ.h cs,σ.u⟩ a w S' m∧(∀ b i,S b i→S' b i)∧∀ id∈cs.flatMap C.ids,∀ o b s i,(∃ sz off n,C.own id sz off n∈cs)→σ.h id=some o→m id=some (b,s)→S' b i
  | []=>⟨S,h,fun _ _ h=>h,fun id hid=>by cases hid⟩
  | c::r=>by
    obtain⟨S1,h1,h2,h3⟩:=Inv.killAll h r;cases c with
    | own id sz off n =>
      by_cases hl:(Go.Proofs.Yteohdchecapkfaa.killAll σ.h r) id=none
      ·refine⟨S1,?_,h2,fun id' _ ob b s i ⟨sz',off',n',hmem⟩ ho hm=>?_⟩
       ·have:=h1.kill id;exact this
       ·rcases zs.1 hmem with e | e
        ·cases e;exact Classical.byContradiction fun hn=>by
           have key:∀ l:List C,(Go.Proofs.Yteohdchecapkfaa.killAll σ.h l) id=none→(∃ sz off n,C.own id sz off n∈l):=by
             intro l
             induction l with
             | nil=>intro hh; simp only[Go.Proofs.Yteohdchecapkfaa.killAll] at hh; rw[ho] at hh; cases hh
             | cons c l ih =>
               intro hh;cases c <;> simp only[Go.Proofs.Yteohdchecapkfaa.killAll] at hh
               case own id2 sz2 off2 n2 =>
                   (by_cases e:id=id2
                    ·subst e; exact⟨sz2,off2,n2,zh ..⟩
                    ·simp only[upd,e,if_false] at hh;obtain⟨x,y,z,hz⟩:=ih hh;exact⟨x,y,z,y9 _ hz⟩)
               all_goals (obtain⟨x,y,z,hz⟩:=ih hh; exact⟨x,y,z,y9 _ hz⟩)
           obtain⟨x,y,z,hz⟩:=key r hl;exact hn (h3 id (y0.2 ⟨_,hz,by simp[C.ids]⟩) ob b s i ⟨x,y,z,hz⟩ ho hm)
        ·exact h3 id' (y0.2 ⟨_,e,by simp[C.ids]⟩) ob b s i ⟨sz',off',n',e⟩ ho hm
      ·obtain⟨o1,ho1⟩:=y7.1 hl;refine⟨_,h1.freeze id o1 ho1,fun b i hs=>.inl (h2 b i hs),fun id' _ ob b s i ⟨sz',off',n',hmem⟩ ho hm=>?_⟩;rcases zs.1 hmem with e | e
       ·cases e; exact .inr ⟨s,hm⟩
       ·exact .inl (h3 id' (y0.2 ⟨_,e,by simp[C.ids]⟩) ob b s i ⟨sz',off',n',e⟩ ho hm)
    | _ =>
      refine⟨S1,h1,h2,fun id' _ ob b s i ⟨sz',off',n',hmem⟩ ho hm=>?_⟩;rcases zs.1 hmem with e | e
      ·cases e
      ·exact h3 id' (y0.2 ⟨_,e,by simp[C.ids]⟩) ob b s i ⟨sz',off',n',e⟩ ho hm
theorem fV {h:ah} {c:C} {d:D} (e:bg h c=some d):∀ id∈c.ids,∃ sz off n,c=.own id sz off n:=by
  cases c <;> simp only[bg] at e <;> first | (cases e; done) | skip
  ·intro id hid; cases hid
  ·intro id hid; cases hid
  ·intro id hid;simp only[C.ids,zj] at hid;subst hid;exact⟨_,_,_,rfl⟩
theorem gK {h:ah}:∀ {cs:List C} {ds:List D},cn h cs=some ds→∀ c∈cs,∀ id∈c.ids,∃ sz off n,c=.own id sz off n
  | [],_,_=>fun c hc=>by cases hc
  | c::r,ds,e=>by
    simp only[cn] at e;split at e
    ·rename_i x l h1 h2;intro c' hc;rcases zs.1 hc with rfl | hc
     ·exact fV h1
     ·exact gK h2 c' hc
    ·cases e
theorem xl (x:Operand) (y:SX) (ho:o.op=.move x∨o.op=.assign x) (hx:ai x=some y) (h:Inv G N Sin w0 σ a w S m) (hd:∀ t,o.dst=some t→t<N∧w0.fx t=none) {r:R} (hr:ef (ev G σ.f) σ.h σ.u (o.dst.getD 0) (.frz y)=some r) (hK:K (σ.put o.dst r)):o.wp P a w (Nx G N Sin w0 K) Q:=by
  have h1:=h.operand hx;simp only[ef] at hr;split at hr
  ·rename_i yw ey;simp only[yX] at hr;obtain⟨d,hd',rfl⟩:=hr;rw[ey] at h1;obtain⟨S',hI,hS,hown⟩:=h.killAll (aO yw);have hall:∀ id∈yw.ids,∀ ob b s i,σ.h id=some ob→m id=some (b,s)→S' b i:=by
     intro id hid ob b s i ho' hm;have hw:(aO yw).flatMap C.ids=yw.ids:=by
       obtain⟨_,_,_,h4⟩:=gC h1.1;exact h4
     have hid':=hid;rw[← hw] at hid';refine hown id hid' ob b s i ?_ ho' hm;unfold toW at hd';split at hd'
     ·rename_i c;obtain⟨sz,off,n,rfl⟩:=fV hd' id hid;exact⟨sz,off,n,by simp[aO]⟩
     ·rename_i cs;simp only[yX] at hd';obtain⟨ds,he,_⟩:=hd';obtain⟨c,hc1,hc2⟩:=y0.1 hid;obtain⟨sz,off,n,rfl⟩:=gK he c hc1 id hc2;exact⟨sz,off,n,hc1⟩
   have hrd:=ga h hS hall h1.1 hd';refine bd hI hd (v:=a.eval x) ?_ (x:=vd d) ?_ (fun i hi=>by cases hi) hK
   ·unfold execOp;rcases ho with ho | ho <;> rw[ho] <;> rfl
   ·show RW m S' w _ (.c (.d d))
    cases d with
    | agg cs=>exact hrd
    | _=>exact hrd
  ·cases hr
theorem js (h:Inv G N Sin w0 σ a w S m) {S':ae} (hS:∀ b i,S b i→S' b i) {v:Value} {x:V} (hown:∀ id,(∃ sz off n,C.own id sz off n∈cy x)→∀ ob b s i,σ.h id=some ob→m id=some (b,s)→S' b i) (hv:RV m S w v x):RV m S' w v (aZ σ.h x):=by
  have keep:RV m S' w v x:=RV.mono hS hv;have key:∀ y d,x=.w y→cy x=aO y→toW σ.h y=some d→RV m S' w v (.w (.c (.d d))):=by
    rintro y d rfl hcell hd';have hall:∀ id∈y.ids,∀ ob b s i,σ.h id=some ob→m id=some (b,s)→S' b i:=by
      intro id hid;refine hown id ?_;rw[hcell];unfold toW at hd';split at hd'
      ·rename_i c;obtain⟨sz,off,n,rfl⟩:=fV hd' id hid;exact⟨sz,off,n,by simp[aO]⟩
      ·rename_i cs;simp only[yX] at hd';obtain⟨ds,he,_⟩:=hd';obtain⟨c,hc1,hc2⟩:=y0.1 hid;obtain⟨sz,off,n,rfl⟩:=gK he c hc1 id hc2;exact⟨sz,off,n,hc1⟩
    have hrd:=ga h hS hall (show RW m S w v y from hv) hd'
    show RW m S' w _ (.c (.d d))
    cases d with
    | agg cs=>exact hrd
    | _=>exact hrd
  unfold aZ;split
  ·rename_i id sz off n;split
   ·rename_i o ho;split
    ·rename_i es he;exact key _ (.sl es) rfl rfl (by simp[toW,bg,ho,he])
    ·trivial
   ·trivial
  ·obtain⟨ad,rfl⟩:∃ ad,v=.slice ad 0 0:=hv
   exact Reads.zero ad
  ·rename_i cs;split
   ·rename_i ds hds;exact key _ (.agg ds) rfl rfl (by simp[toW,hds])
   ·trivial
  ·exact keep
theorem wC (h:ah) (x:V):∀ i∈(aZ h x).ids,i∈x.ids:=by
  intro i hi;unfold aZ at hi;split at hi
  ·split at hi
   ·split at hi <;> cases hi
   ·cases hi
  ·cases hi
  ·split at hi <;> cases hi
  ·exact hi
theorem uY (t:TypeId) (ps:Array (Nat×Operand)) (ho:o.op=.build t ps) (place:Nat→Option (Nat×Nat)) (zv:Value) (hb:∀ l cells,Instr.fill place zv.cells l=some cells→P.built t l=some cells) {cs:List C} (hcs:ar da zv.cells.toList=some cs)
    {qs:List (Nat×Nat×SX)} (hq:ab (fun p q=>place p.1=some (q.1,q.2.1)∧ai p.2=some q.2.2) ps.toList qs) (h:Inv G N Sin w0 σ a w S m) (hd:∀ t,o.dst=some t→t<N∧w0.fx t=none)
    {cs':List C} (hp:parts (fun x=>aZ σ.h (ev G σ.f x)) qs cs=some cs') (hK:K (σ.put o.dst (.w (b9 cs'),killAll σ.h (qs.flatMap fun p=>cy (ev G σ.f p.2.2)),σ.u))):o.wp P a w (Nx G N Sin w0 K) Q:=by
  obtain⟨S',hI,hS,hown⟩:=h.killAll (qs.flatMap fun p=>cy (ev G σ.f p.2.2));have hz:=iF (m:=m) (S:=S') (w:=w) hcs;have hq2:ab (fun p q=>place p.1=some (q.1,q.2.1)∧RV m S' w (a.eval p.2) (aZ σ.h (ev G σ.f q.2.2))∧∀ i∈(aZ σ.h (ev G σ.f q.2.2)).ids,σ.u i=true) ps.toList qs:=hq.weak fun p q _ hqm hpq =>
    ⟨hpq.1,js h hS (fun id ⟨sz,off,n,hc⟩ ob b s i ho' hm=>hown id (y0.2 ⟨_,y0.2 ⟨q,hqm,hc⟩,by simp[C.ids]⟩) ob b s i ⟨sz,off,n,y0.2 ⟨q,hqm,hc⟩⟩ ho' hm) (h.operand hpq.2).1,
      fun i hi=>(h.operand hpq.2).2 i (wC _ _ i hi)⟩
  obtain⟨cur',h1,h2,h3⟩:=jc place hz.1 (fun i hi=>by rw[hz.2] at hi; cases hi) hq2 hp;have hmk:=fR h2;rw[zL] at hmk;refine bd hI hd (x:=.w (b9 cs')) ?_ hmk.1 (fun i hi=>h3 i (hmk.2 i hi)) hK;simp only[execOp,ho];refine aL (run_build w t _ cur' (hb _ _ ?_));rw[← h1]
  congr 1
  simp
theorem vC (t e:TypeId) (ht:P.underlying t=some (.slice e)) (he:P.underlying e=some (.int .u8)) (x:Operand) (x':SX) (ho:o.op=.convert t t x) (hx:ai x=some x') (h:Inv G N Sin w0 σ a w S m) (hd:∀ t,o.dst=some t→t<N∧w0.fx t=none) {r:R} (hr:ef (ev G σ.f) σ.h σ.u (o.dst.getD 0) (.markF x')=some r) (hK:K (σ.put o.dst r)):o.wp P a w (Nx G N Sin w0 K) Q:=by
  simp only[ef] at hr;split at hr
  ·rename_i id sz off n e1;split at hr
   ·rename_i sz' es ho1;split at hr
    ·rename_i hsz;cases hr;obtain⟨v,w1,run,hinv,hv,_⟩:=o3 t e ht he x x' ho hx h e1 ho1 hsz.2.1;obtain⟨S',hI,hS,hown⟩:=hinv.killAll [.own id sz off n];have hf:=js hinv hS (x:=.w (.c (.own id sz off n))) (fun id' ⟨sz2,off2,n2,hc⟩ ob b s i ho' hm=>by
       refine hown id' ?_ ob b s i ⟨sz2,off2,n2,hc⟩ ho' hm;exact y0.2 ⟨_,hc,by simp[C.ids]⟩) hv
     have hfe:aZ σ.h (.w (.c (.own id sz off n)))=vd (.sl ((es.drop off).take n)):=by
       simp only[aZ,ho1,bI,if_pos hsz.2.2,vd]
     rw[hfe] at hf;exact bd hI hd run (x:=vd (.sl ((es.drop off).take n))) hf (fun i hi=>by cases hi) hK
    ·cases hr
   ·cases hr
  ·cases hr
theorem vD (t e:TypeId) {s b:Nat} {z:D} (ht:bU P t=some (e,s,b,z)) (n:Nat) (hn:n*s≤2^24) (hn1:0<n) (ps:Array (Nat×Operand)) (ho:o.op=.buildSlice t n ps) {qs:List (Nat×SX)}
    (hq:ab (fun p q=>p.1=q.1∧ai p.2=some q.2) ps.toList qs)
    (h:Inv G N Sin w0 σ a w S m) (hd:∀ t,o.dst=some t→t<N∧w0.fx t=none) {r:R} (hr:ef (ev G σ.f) σ.h σ.u (o.dst.getD 0) (.bldFz n s z qs)=some r) (hK:K (σ.put o.dst r)):o.wp P a w (Nx G N Sin w0 K) Q:=by
  obtain⟨hu0,he⟩:=dD ht;obtain⟨i,zv,hi,hs,hb,hz,hpos,hlen,hrd⟩:=dq he;have hn2:n≤16777216:=by
    have:=Nat.le_mul_of_pos_right n hpos;have:(2:Nat)^24=16777216:=by decide
    omega
  simp only[ef,yX] at hr;obtain⟨es,hes,rfl⟩:=hr;obtain⟨S',hI,hS,hown⟩:=h.killAll (qs.flatMap fun p=>cy (ev G σ.f p.2));have h0:=gD (m:=m) (S:=S') (w:=w) (e:=e) (b:=b) (zv:=zv) hrd hlen hpos n n (y8 _) s;have hq2:ab (fun p q=>p.1=q.1∧RV m S' w (a.eval p.2) (aZ σ.h (ev G σ.f q.2))) ps.toList qs:=hq.weak fun p q _ hqm hpq =>
    ⟨hpq.1,js h hS (fun id ⟨sz,off,n,hc⟩ ob b s i ho' hm=>hown id (y0.2 ⟨_,y0.2 ⟨q,hqm,hc⟩,by simp[C.ids]⟩) ob b s i ⟨sz,off,n,y0.2 ⟨q,hqm,hc⟩⟩ ho' hm) (h.operand hpq.2).1⟩
  obtain⟨cur,g1,g2,g3,g4⟩:=iY h0 hq2 hes;rw[zG] at g3;rw[size_madeCells] at g4
  have hn3:¬ 16777216<n*s:=by have:(2:Nat)^24=16777216:=by decide
                              omega
  have run:(execOp a.eval o).run P w=.ok (.value (.slice (some ⟨w.heap.size,0,none⟩) n n)) (w.alloc (.cells cur e)):=by
    simp only[execOp,ho];refine aL ?_;have hfill:Instr.fill (fun i=>some (i*s,s)) (madeCells zv.cells (n*s)) ((ps.map fun x=>(x.1,a.eval x.2)).toList)=some cur:=by
      rw[← g1]; congr 1; simp
    have hns:¬ n*s=0:=by
      have:=Nat.mul_pos hn1 hpos;omega
    have hfill':Instr.fill (fun i=>some (i*s,s)) (Array.map (fun x=>zv.cells[x%zv.cells.size]!) (Array.range (n*s))) (List.map (fun x=>(x.1,a.eval x.2)) ps.toList)=some cur:=by
      rw[← hfill];simp[madeCells]
    simp[Instr.buildSlice,run_underlying hu0,sizeOf,typeInfo,hi,hs,hn3,hns,zeroValue,hz,newRow,hfill']
  have hr2:=mL (ty:=e) (cap:=n) hI g2 (by omega) (by simp only[maxLen]; omega);rw[g3] at hr2;exact bd (hI.newRo _) hd run (x:=vd (.sl es)) (hr2.rw (m:=m)) (fun i hi=>by cases hi) hK
theorem o8 (h:Inv G N Sin w0 σ a w S m):∀ {xs:List Operand} {ys:List SX} {k:IntKind} {l:List Int},ar ai xs=some ys→ints (ev G σ.f) ys=some (k,l)→xs.map a.eval=l.map (Value.int k)∧l≠[]
  | [],ys,k,l,h1,h2=>by simp only[ar,yY] at h1; subst h1; simp[ints] at h2
  | x::xs,ys,k,l,h1,h2=>by
    simp only[ar] at h1;split at h1
    ·rename_i y ys' hx hxs;cases h1;cases ys' with
     | nil =>
       simp only[ints,yX] at h2;obtain⟨⟨k',n⟩,h3,h4⟩:=h2;cases h4;have:=db (h.operand hx).1 h3;have hxs0:xs=[]:=by
         cases xs with
         | nil=>rfl
         | cons x2 r=>simp only[ar] at hxs; split at hxs <;> cases hxs
       subst hxs0;exact⟨by simp[this],by simp⟩
     | cons y2 r =>
       simp only[ints] at h2;split at h2
       ·rename_i k1 n1 k2 l2 h3 h4;split at h2
        ·rename_i hk;cases h2;subst hk;have h5:=db (h.operand hx).1 h3;obtain⟨h6,_⟩:=o8 h hxs h4;exact⟨by simp[h5,h6],by simp⟩
        ·cases h2
       ·cases h2
    ·cases h1
theorem kM (k:IntKind):∀ (l:List Int) (x:Int),((l.map (Value.int k)).foldlM Builtin.min2 (.int k x)).run P w=.ok (.int k (l.foldl (fun x y=>if y<x then y else x) x)) w
  | [],x=>rfl
  | y::r,x=>by
    simp only[y5,List.foldlM_cons,List.foldl_cons,Sem.run_bind,Builtin.min2,Sem.run_pure,Result.andThen_ok];exact kM k r _
theorem kN (k:IntKind):∀ (l:List Int) (x:Int),((l.map (Value.int k)).foldlM Builtin.max2 (.int k x)).run P w=.ok (.int k (l.foldl (fun x y=>if y>x then y else x) x)) w
  | [],x=>rfl
  | y::r,x=>by
    simp only[y5,List.foldlM_cons,List.foldl_cons,Sem.run_bind,Builtin.max2,Sem.run_pure,Result.andThen_ok];exact kN k r _
theorem kW (mx:Bool) (c:Call) (ho:o.op=.call c) (hc:c.callee=.builtin (if mx then .max else .min)) {ys:List SX} (hys:ar ai c.args.toList=some ys) (h:Inv G N Sin w0 σ a w S m) (hd:∀ t,o.dst=some t→t<N∧w0.fx t=none)
    {r:R} (hr:ef (ev G σ.f) σ.h σ.u (o.dst.getD 0) (if mx then .max ys else .min ys)=some r) (hK:K (σ.put o.dst r)):o.wp P a w (Nx G N Sin w0 K) Q:=by
  have key:∀ k l,ints (ev G σ.f) ys=some (k,l)→∃ x0 l0,l=x0::l0∧(c.args.map a.eval)=((x0::l0).map (Value.int k)).toArray:=by
    intro k l hl;obtain⟨h1,h2⟩:=o8 h hys hl;cases l with
    | nil=>exact absurd rfl h2
    | cons x0 l0 =>
      refine⟨x0,l0,rfl,?_⟩;apply Array.ext'
      simpa using h1
  cases mx
  ·simp only[Bool.false_eq_true,if_false,ef,yX] at hr hc;obtain⟨⟨k,l⟩,hl,rfl⟩:=hr;obtain⟨x0,l0,rfl,hargs⟩:=key k l hl;refine bV h hd ?_ (.int k _) hK;simp only[execOp,ho,resolve,hc,invoke,builtin,hargs];simp[Builtin.min_,kM]
  ·simp only[if_true,ef,yX] at hr hc;obtain⟨⟨k,l⟩,hl,rfl⟩:=hr;obtain⟨x0,l0,rfl,hargs⟩:=key k l hl;refine bV h hd ?_ (.int k _) hK;simp only[execOp,ho,resolve,hc,invoke,builtin,hargs];simp[Builtin.max_,kN]
end
section
variable {P:Program} {G:au} {N:Nat} {Sin:ae} {w0:Gh} {σ:St} {a:Act} {w:World} {S:ae} {m:Mp} {o:Oper} {K:St→Prop} {Q:Exit→Act→World→Prop}
theorem o9 (h:Inv G N Sin w0 σ a w S m):∀ {xs:List Operand} {ys:List SX} {ds:List D},ar ai xs=some ys→a8 σ.h (ys.map (ev G σ.f))=some ds→ab (fun v x=>RW (fun _=>none) (dN σ.h m S) w v (.c (.d x))) (xs.map a.eval) ds
  | [],ys,ds,h1,h2=>by
    simp only[ar,yY] at h1;subst h1;simp only[zX,a8,yY] at h2;subst h2;exact .nil
  | x::xs,ys,ds,h1,h2=>by
    simp only[ar] at h1;split at h1
    ·rename_i y ys' hx hxs;cases h1;simp only[y5,a8] at h2;split at h2
     ·rename_i d l h3 h4;cases h2;exact .cons (rv h (h.operand hx).1 h3) (o9 h hxs h4)
     ·cases h2
    ·cases h1
theorem jd (h:Inv G N Sin w0 σ a w S m):∀ {xs:List Operand} {ys:List SX} {ds:List D},ar ai xs=some ys→a8 σ.h (ys.map (ev G σ.f))=some ds→(ys.map (ev G σ.f)).any V.hasOwn=false→ab (fun v x=>RW (fun _=>none) S w v (.c (.d x))) (xs.map a.eval) ds
  | [],ys,ds,h1,h2,_=>by
    simp only[ar,yY] at h1;subst h1;simp only[zX,a8,yY] at h2;subst h2;exact .nil
  | x::xs,ys,ds,h1,h2,h5=>by
    simp only[ar] at h1;split at h1
    ·rename_i y ys' hx hxs;cases h1;simp only[y5,a8] at h2;simp only[y5,List.any_cons,Bool.or_eq_false_iff] at h5;split at h2
     ·rename_i d l h3 h4;cases h2;refine .cons ?_ (jd h hxs h4 h5.2);have hv:=(h.operand hx).1;have h51:=h5.1;generalize ev G σ.f y=yv at hv h3 h51;refine o5 h (fun _ _ h=>h) (fun id hid ob b s i ho hm=>?_) hv h3;exfalso;unfold bK at h3;split at h3
      ·rename_i c;simp only[V.hasOwn] at h51;change id∈c.ids at hid;cases c <;> first | (cases hid; done) | (cases h51; done) | (cases h3; done) | skip
       rename_i g pre post;simp only[a4] at h3;split at h3
       ·rename_i hp;obtain rfl:pre=[]:=by simpa using hp
        simp only[C.ids,List.flatMap_nil,List.nil_append] at hid;obtain⟨c,hc1,hc2⟩:=y0.1 hid;simp only[C.isOwn,List.any_eq_false] at h51;have:=h51 c hc1;cases c with
        | d x=>cases hc2
        | p=>exact this rfl
       ·cases h3
      ·rename_i cs;simp only[yX] at h3;obtain⟨ds',he,_⟩:=h3;obtain⟨c,hc1,hc2⟩:=y0.1 (show id∈cs.flatMap C.ids from hid);obtain⟨sz,off,n,rfl⟩:=gK he c hc1 id hc2;simp only[V.hasOwn,List.any_eq_false] at h51;exact h51 _ hc1 rfl
      ·cases h3
     ·cases h2
    ·cases h1
theorem RW.mono0 {S T:ae} {v:Value} {x:D} (h:RW (fun _=>none) S w v (.c (.d x))) (hT:∀ b i,S b i→T b i):RW (fun _=>none) T w v (.c (.d x)):=by
  by_cases hc:∃ cs,x=.agg cs
  ·obtain⟨cs,rfl⟩:=hc;obtain⟨us,h1,h2⟩:=h;exact⟨us,h1,h2.weak fun _ _ _ _ h=>h.mono hT⟩
  ·have h':Reads S w v x:=by
     unfold RW at h;split at h
     ·rename_i e1; cases e1; exact absurd ⟨_,rfl⟩ hc
     ·rename_i e1; cases e1; exact h
     ·rename_i e1; cases e1
   exact (h'.mono hT).rw
theorem mO (h:Inv G N Sin w0 σ a w S m):∀ {xs:List Operand} {ys:List SX} {ds:List D},ar ai xs=some ys→a8 σ.h (ys.map (ev G σ.f))=some ds→hO (ys.map (ev G σ.f)) ds=true→ab (fun v x=>RW (fun _=>none) (ec σ.h m S w) w v (.c (.d x))) (xs.map a.eval) ds
  | [],ys,ds,h1,h2,_=>by
    simp only[ar,yY] at h1;subst h1;simp only[zX,a8,yY] at h2;subst h2;exact .nil
  | x::xs,ys,ds,h1,h2,h5=>by
    simp only[ar] at h1;split at h1
    ·rename_i y ys' hx hxs;cases h1;simp only[y5,a8] at h2;split at h2
     ·rename_i d l h3 h4;cases h2;simp only[y5,hO,zi,Bool.or_eq_true,Bool.not_eq_true'] at h5;refine .cons ?_ (mO h hxs h4 h5.2);rcases h5.1 with h6 | h6
      ·have h7:=jd h (xs:=[x]) (ys:=[y]) (ds:=[d]) (by simp[ar,hx]) (by simp[a8,h3]) (by simp[h6]);cases h7 with
       | cons h8 _=>exact h8.mono0 fun _ _ h=>.inl h
      ·exact xg h (h.operand hx).1 h3 h6.1 h6.2
     ·cases h2
    ·cases h1
theorem Reads.flat {T T':ae} {v:Value} {x:D} (hx:x.flat=true) (h:Reads T w v x):Reads T' w v x:=by
  cases h with
  | int=>exact .int _ _
  | bool=>exact .bool _
  | str=>exact .str _
  | nil=>exact .nil
  | sl=>simp[D.flat] at hx
  | ref=>simp[D.flat] at hx
  | fn=>simp[D.flat] at hx
  | mpN=>simp[D.flat] at hx
  | mp=>simp[D.flat] at hx
theorem xm {T T':ae} {us:List Value} {cs:List D} (hx:(D.agg cs).flat=true) (h:ab (Reads T w) us cs):ab (Reads T' w) us cs:=by
  refine h.weak fun u c _ hc hr=>?_
  simp only[D.flat,zf] at hx;have:=hx c hc;cases hr with
  | int=>exact .int _ _
  | bool=>exact .bool _
  | str=>exact .str _
  | nil=>exact .nil
  | sl=>simp at this
  | ref=>simp at this
  | fn=>simp at this
  | mpN=>simp at this
  | mp=>simp at this
theorem uM {S' T:ae} {w':World} {B b sz cap:Nat} {es:List D} (h:i6 S' w' B b sz es) (hT:∀ b i,S' b i→T b i) (hb:∀ i,T b i) (hcap:es.length≤cap) (hmax:cap≤maxLen):Reads T w' (.slice (some ⟨b,0,none⟩) es.length cap) (.sl es):=by
  obtain⟨_,_,cur,ty,fz,h1,_,h2,h3⟩:=h;refine Reads.of_row (sz:=sz) (fun i hi=>?_) hcap hmax;obtain⟨h4,h5⟩:=h3 i hi;refine⟨h4,fun j hj=>?_⟩;obtain⟨v,h6,h7⟩:=h5 j hj;refine⟨v,hb _,?_,h7.mono hT⟩;rw[cell_of_row w' b _ cur ty fz h1,Nat.zero_add];exact h6
theorem jt {S' T:ae} {w':World} {B:Nat} {v:Value} {c:C} {bl:List Nat} (h:cp S' w' B v c bl) (hT:∀ b i,S' b i→T b i) (hb:∀ b∈bl,∀ i,T b i):RC m T w' v c.ro∧c.ro.ids=[]:=by
  cases c <;> simp only[cp] at h <;> first | exact h.elim | skip
  ·exact⟨h.1.mono hT,rfl⟩
  ·rename_i sz es;refine⟨?_,rfl⟩;rcases h with ⟨⟨ad,rfl⟩,rfl,_⟩ | ⟨b,cap,ty,N',rfl,rfl,h1,h2,_,_,h3⟩
   ·exact Reads.zero ad
   ·exact uM h3 hT (hb b (by simp)) h1 h2
theorem wE {S' T:ae} {w':World} {B:Nat} {us:List Value} {cs:List C} {bl:List Nat} (h:cD S' w' B us cs bl) (hT:∀ b i,S' b i→T b i) (hb:∀ b∈bl,∀ i,T b i):ab (RC m T w') us (cs.map C.ro)∧(cs.map C.ro).flatMap C.ids=[]:=by
  induction h with
  | nil=>exact⟨.nil,rfl⟩
  | cons h1 _ ih =>
    have h2:=jt (m:=m) h1 hT fun b hb'=>hb b (zb _ hb')
    have h3:=ih fun b hb'=>hb b (y1 _ hb')
    exact⟨.cons h2.1 h3.1,by rw[y5,y4,h2.2,h3.2]; rfl⟩
theorem jP {S' T:ae} {w':World} {B:Nat} {v:Value} {x:W} {bl:List Nat} (h:ca S' w' B v x bl) (hT:∀ b i,S' b i→T b i) (hb:∀ b∈bl,∀ i,T b i):RW m T w' v x.ro∧x.ro.ids=[]:=by
  unfold ca at h;split at h
  ·rename_i cs;obtain⟨⟨us,h1,h2⟩,_⟩:=h;exact⟨⟨us,h1,h2.weak fun _ _ _ _ h=>h.mono hT⟩,rfl⟩
  ·rename_i c hc;have:=jt (m:=m) h hT hb;exact⟨RC.rw this.1,this.2⟩
  ·rename_i cs;obtain⟨us,rfl,h2⟩:=h;have h3:=wE (m:=m) h2 hT hb;have h4:=fR h3.1;refine⟨h4.1,?_⟩;cases hids:(b9 (cs.map C.ro)).ids with
   | nil=>exact hids
   | cons i r =>
     have:=h4.2 i (by rw[hids]; simp);rw[h3.2] at this;cases this
theorem vF {S':ae} {w':World} {B:Nat} {us:List Value} {ws:List W} {bl:List Nat} (h:cE S' w' B us ws bl) (hn:bl.Nodup):∀ (k:Nat) (y:W),ws[k]?=some y→∃ u bk,us[k]?=some u∧ca S' w' B u y bk∧(∀ b∈bk,b∈bl)∧∀ (j:Nat),j≠k→∀ (z:W),ws[j]?=some z→∃ u' bj,us[j]?=some u'∧ca S' w' B u' z bj∧(∀ b∈bj,b∈bl∧b∉bk):=by
  induction h with
  | nil=>intro k y hy; simp at hy
  | cons h1 h2 ih =>
    rename_i v c b1 vs cs b2;have hn2:=zM.1 hn;intro k y hy;cases k with
    | zero =>
      simp only[zB,yY] at hy;subst hy;refine⟨v,b1,rfl,h1,fun b hb=>zb _ hb,fun j hj z hz=>?_⟩;cases j with
      | zero=>exact absurd rfl hj
      | succ j =>
        simp only[zn] at hz;obtain⟨u,bk,g1,g2,g3,_⟩:=ih hn2.2.1 j z hz;exact⟨u,bk,by simpa using g1,g2,fun b hb=>⟨y1 _ (g3 b hb),fun hb1=>hn2.2.2 b hb1 b (g3 b hb) rfl⟩⟩
    | succ k =>
      simp only[zn] at hy;obtain⟨u,bk,g1,g2,g3,g4⟩:=ih hn2.2.1 k y hy;refine⟨u,bk,by simpa using g1,g2,fun b hb=>y1 _ (g3 b hb),fun j hj z hz=>?_⟩;cases j with
      | zero =>
        simp only[zB,yY] at hz;subst hz;exact⟨v,b1,rfl,h1,fun b hb=>⟨zb _ hb,fun hbk=>hn2.2.2 b hb b (g3 b hbk) rfl⟩⟩
      | succ j =>
        simp only[zn] at hz;obtain⟨u',bj,q1,q2,q3⟩:=g4 j (by omega) z hz;exact⟨u',bj,by simpa using q1,q2,fun b hb=>⟨y1 _ (q3 b hb).1,(q3 b hb).2⟩⟩
theorem vG {S':ae} {w':World} {B:Nat} {us:List Value} {ws:List W} {bl:List Nat} (h:cE S' w' B us ws bl):us.length=ws.length:=by
  induction h with
  | nil=>rfl
  | cons _ _ ih=>simp[ih]
theorem vH {S':ae} {w':World} {B:Nat} {us:List Value} {ws:List C} {bl:List Nat} (h:cD S' w' B us ws bl) (hn:bl.Nodup):∀ (k:Nat) (y:C),ws[k]?=some y→∃ u bk,us[k]?=some u∧cp S' w' B u y bk∧(∀ b∈bk,b∈bl)∧∀ (j:Nat),j≠k→∀ (z:C),ws[j]?=some z→∃ u' bj,us[j]?=some u'∧cp S' w' B u' z bj∧(∀ b∈bj,b∈bl∧b∉bk):=by
  induction h with
  | nil=>intro k y hy; simp at hy
  | cons h1 h2 ih =>
    rename_i v c b1 vs cs b2;have hn2:=zM.1 hn;intro k y hy;cases k with
    | zero =>
      simp only[zB,yY] at hy;subst hy;refine⟨v,b1,rfl,h1,fun b hb=>zb _ hb,fun j hj z hz=>?_⟩;cases j with
      | zero=>exact absurd rfl hj
      | succ j =>
        simp only[zn] at hz;obtain⟨u,bk,g1,g2,g3,_⟩:=ih hn2.2.1 j z hz;exact⟨u,bk,by simpa using g1,g2,fun b hb=>⟨y1 _ (g3 b hb),fun hb1=>hn2.2.2 b hb1 b (g3 b hb) rfl⟩⟩
    | succ k =>
      simp only[zn] at hy;obtain⟨u,bk,g1,g2,g3,g4⟩:=ih hn2.2.1 k y hy;refine⟨u,bk,by simpa using g1,g2,fun b hb=>y1 _ (g3 b hb),fun j hj z hz=>?_⟩;cases j with
      | zero =>
        simp only[zB,yY] at hz;subst hz;exact⟨v,b1,rfl,h1,fun b hb=>⟨zb _ hb,fun hbk=>hn2.2.2 b hb b (g3 b hbk) rfl⟩⟩
      | succ j =>
        simp only[zn] at hz;obtain⟨u',bj,q1,q2,q3⟩:=g4 j (by omega) z hz;exact⟨u',bj,by simpa using q1,q2,fun b hb=>⟨y1 _ (q3 b hb).1,(q3 b hb).2⟩⟩
theorem vI {S':ae} {w':World} {B:Nat} {us:List Value} {ws:List C} {bl:List Nat} (h:cD S' w' B us ws bl):us.length=ws.length:=by
  induction h with
  | nil=>rfl
  | cons _ _ ih=>simp[ih]
theorem Inv.callee (h:Inv G N Sin w0 σ a w S m) {w':World} (hb:Below w.heap.size w w') (T:ae) (hT:∀ b i,T b i→w.heap.size≤b∧b<w'.heap.size):Inv G N Sin w0 σ a w' (fun b i=>S b i∨T b i) m:=by
  have hg:=h.grow (w':=w') (fun b hlt=>hb.block b hlt) (h.below.step (y8 _) hb) hb.size;refine hg.move (aw.refl _ _) (aY.refl _) (fun _ _ h=>.inl h) (fun _ _=>rfl) (fun _ h=>h) (fun id ob ho=>?_) hg.inj (fun b i hs=>?_) hg.below
  ·have h1:=hg.obj id ob ho;refine⟨h1.1.step (aw.refl _ _) (fun _ _ h=>.inl h) (fun _ _=>rfl) rfl fun b s hm=>⟨rfl,fun i hi=>?_⟩,h1.2⟩;rcases hi with hi | hi
   ·exact h1.1.apart hm i hi
   ·have:=(h.obj id ob ho).1.lt hm;have:=(hT b i hi).1;omega
  ·rcases hs with hs | hs
   ·exact hg.sin b i hs
   ·have:=hT b i hs;exact⟨this.2,.inr (.inl (zy h.bsize this.1))⟩
theorem Inv.adopt (h:Inv G N Sin w0 σ a w S m) {id b sz:Nat} {es:List D} (hu:σ.u id=false) {B:Nat} {S':ae} (hf:i6 S' w B b sz es) (hS:∀ v x,Reads S' w v x→(∃ i j,∃ h1:i<es.length,∃ h2:j<es[i].cells.length,x=es[i].cells[j])→Reads S w v x) (hB:w0.heap.size≤B) (hno:∀ i,¬ S b i) (hnew:∀ id' ob b' s,σ.h id'=some ob→m id'=some (b',s)→b'≠b) :
    Inv G N Sin w0 ⟨σ.f,upd σ.h id (some (.row sz es)),upd σ.u id true⟩ a w S (upd m id (some (b,sz))):=by
  have hm:∀ i,σ.u i=true→upd m id (some (b,sz)) i=m i:=fun i hi=>by
    unfold upd; rw[if_neg (fun e=>by rw[e,hu] at hi; cases hi)]
  have huu:∀ i,σ.u i=true→upd σ.u id true i=true:=fun i hi=>by unfold upd; split <;> simp_all
  obtain⟨f1,f2,cur,ty,fz,f3,f4,f5,f6⟩:=hf;refine h.move (aw.refl _ _) (aY.refl _) (fun _ _ h=>h) hm huu (fun i o ho=>?_) (fun i j b' s s' h1 h2 h3 h4=>?_) h.sin h.below
  ·by_cases e:i=id
   ·subst e;simp only[upd,if_true,yY] at ho;subst ho;refine⟨?_,by simp[upd],fun j hj=>by cases hj⟩;unfold aA;simp only[upd,if_true];refine⟨rfl,.inl (by omega),hno,cur,ty,fz,f3,f4,f5,fun i hi=>⟨(f6 i hi).1,fun j hj=>?_⟩⟩;obtain⟨v,g1,g2⟩:=(f6 i hi).2 j hj;exact⟨v,g1,hS v _ g2 ⟨i,j,hi,hj,rfl⟩⟩
   ·simp only[upd,e,if_false] at ho;have ho':=h.obj i o ho;exact⟨ho'.1.step (aw.refl _ _) (fun _ _ h=>h) (fun j hj=>hm j (ho'.2.2 j hj)) (hm i ho'.2.1) fun b s hb'=>⟨rfl,ho'.1.apart hb'⟩,huu i ho'.2.1,fun j hj=>huu j (ho'.2.2 j hj)⟩
  ·have live:∀ i s,upd σ.h id (some (.row sz es)) i≠none→upd m id (some (b,sz)) i=some (b',s)→(i=id∧b'=b)∨(i≠id∧σ.h i≠none∧m i=some (b',s)∧b'≠b):=by
     intro i s g1 g2;by_cases e:i=id
     ·subst e;simp only[upd,if_true,yY,Prod.mk.injEq] at g2;exact .inl ⟨rfl,g2.1.symm⟩
     ·simp only[upd,e,if_false] at g1 g2;obtain⟨o,ho⟩:=y7.1 g1;exact .inr ⟨e,g1,g2,hnew i o b' s ho g2⟩
   rcases live i s h1 h3 with ⟨e1,e2⟩ | ⟨e1,e2,e3,e4⟩ <;> rcases live j s' h2 h4 with ⟨k1,k2⟩ | ⟨k1,k2,k3,k4⟩
   ·rw[e1,k1]
   ·exact absurd e2 k4
   ·exact absurd k2 e4
   ·exact h.inj i j b' s s' e2 k2 e3 k3
theorem x4 {id b sz n cap N':Nat} {ty:TypeId} (hcap:n≤cap) (hmax:cap≤maxLen) (hs:w.shape? b=some (ty,N')) (hle:cap*sz≤N'):RW (upd m id (some (b,sz))) S w (.slice (some ⟨b,0,none⟩) n cap) (.c (.own id sz 0 n)):=by
  show aC _ _ _ _ _ _ _
  unfold aC;simp only[upd,if_true];exact⟨trivial,_,cap,ty,N',rfl,hcap,hmax,fun _=>by simp,hs,by simpa using hle⟩
theorem vJ {id sz:Nat} {ad:Option Addr}:RW (upd m id none) S w (.slice ad 0 0) (.c (.own id sz 0 0)):=by
  show aC _ _ _ _ _ _ _
  unfold aC;simp only[upd,if_true];exact⟨⟨_,rfl⟩,trivial,trivial⟩
theorem D.flat_cells {x:D} (h:x.flat=true):∀ y∈x.cells,y.flat=true:=by
  cases x with
  | agg cs =>
    intro y hy;simp only[D.flat,zf] at h;have:=h y hy;cases y <;> simp at this <;> rfl
  | _=>intro y hy; simp only[D.cells,zj] at hy; subst hy; exact h
theorem lB {S' S'':ae} {w':World} {B:Nat} {v:Value} {c:C} {bl:List Nat} (hs:∀ b i,S'' b i→S' b i) (hf:c.flat=true) (h:cp S' w' B v c bl):cp S'' w' B v c bl:=by
  cases c <;> simp only[cp] at*<;> first | exact h.elim | skip
  ·exact⟨h.1.flat hf,h.2⟩
  ·rename_i sz es;rcases h with h | ⟨b,cap,ty,N',h1,h2,h3,h4,h5,h6,f1,f2,cur,ty',fz,f3,f4,f5,f6⟩
   ·exact .inl h
   ·refine .inr ⟨b,cap,ty,N',h1,h2,h3,h4,h5,h6,f1,fun i hi=>f2 i (hs _ _ hi),cur,ty',fz,f3,f4,f5,fun i hi=>⟨(f6 i hi).1,fun j hj=>?_⟩⟩;obtain⟨u,g1,g2⟩:=(f6 i hi).2 j hj;refine⟨u,g1,g2.flat ?_⟩;simp only[C.flat,zf] at hf;have h7:=hf es[i] (zx hi);exact D.flat_cells h7 _ (zx hj)
theorem uZ {S' S'':ae} {w':World} {B:Nat} (hs:∀ b i,S'' b i→S' b i) {us:List Value} {cs:List C} {bl:List Nat} (h:cD S' w' B us cs bl):cs.all C.flat=true→cD S'' w' B us cs bl:=by
  induction h with
  | nil=>intro _; exact .nil
  | cons h1 _ ih =>
    intro hf;simp only[List.all_cons,zi] at hf;exact .cons (lB hs hf.1 h1) (ih hf.2)
theorem lC {S' S'':ae} {w':World} {B:Nat} {v:Value} {x:W} {bl:List Nat} (hs:∀ b i,S'' b i→S' b i) (hf:x.flat=true) (h:ca S' w' B v x bl):ca S'' w' B v x bl:=by
  unfold ca at *
  split at h
  ·obtain⟨⟨us,h1,h2⟩,h3⟩:=h;exact⟨⟨us,h1,xm hf h2⟩,h3⟩
  ·exact lB hs hf h
  ·obtain⟨us,h1,h2⟩:=h;exact⟨us,h1,uZ hs h2 hf⟩
theorem u1 {S' S'':ae} {w':World} {B:Nat} (hs:∀ b i,S'' b i→S' b i) {us:List Value} {cs:List W} {bl:List Nat} (h:cE S' w' B us cs bl):cs.all W.flat=true→cE S'' w' B us cs bl:=by
  induction h with
  | nil=>intro _; exact .nil
  | cons h1 _ ih =>
    intro hf;simp only[List.all_cons,zi] at hf;exact .cons (lC hs hf.1 h1) (ih hf.2)
theorem vK {S' S'':ae} {w':World} {B:Nat} {v:Value} {x:V} {bl:List Nat} (hs:∀ b i,S'' b i→S' b i) (hf:x.flat=true) (h:cP S' w' B v x bl):cP S'' w' B v x bl:=by
  cases x with
  | w x=>exact lC hs hf h
  | tup ws=>obtain⟨us,h1,h2⟩:=h; exact⟨us,h1,u1 hs h2 hf⟩
  | undef=>exact h
theorem Reads.byt {T T':ae} {v:Value} {x:D} (hx:x.byt1=true) (h:Reads T w v x) (H:∀ b i n,T b i→w.cell? ⟨b,i,none⟩=some (.int .u8 n)→T' b i):Reads T' w v x:=by
  cases h with
  | int=>exact .int _ _
  | bool=>exact .bool _
  | str=>exact .str _
  | nil=>exact .nil
  | sl a cap sz es u hcap hmax hsz hS hc hr =>
    simp only[D.byt1,zf] at hx;have one:∀ i (hi:i<es.length),∃ n,es[i]=.int .u8 n:=fun i hi=>by
      have:=hx es[i] (zx hi);unfold D.isU8 at this;split at this
      ·exact⟨_,by assumption⟩
      ·cases this
    have key:∀ i j,i<es.length→j<sz→∃ n,u i j=.int .u8 n:=fun i j hi hj=>by
      obtain⟨n,hn⟩:=one i hi;have hjl:j<es[i].cells.length:=by rw[hsz i hi]; exact hj
      have:=hr i j hi hjl;have hce:es[i].cells=[.int .u8 n]:=by rw[hn]; rfl
      have hj0:j=0:=by rw[hce] at hjl; simpa using hjl
      subst hj0;have he:es[i].cells[0]=.int .u8 n:=by simp only[hce,List.getElem_cons_zero]
      rw[he] at this;generalize u i 0=v0 at this;cases this;exact⟨n,rfl⟩
    refine .sl a cap sz es u hcap hmax hsz (fun i j hi hj=>?_) hc fun i j hi h2=>?_
    ·obtain⟨n,hn⟩:=key i j hi hj;have hcc:=hc i j hi hj;have hsp:=cell_spot hcc;rw[hn,hsp] at hcc;exact H _ _ n (hS i j hi hj) hcc
    ·obtain⟨n,hn⟩:=key i j hi (by rw[← hsz i hi]; exact h2);have hrr:=hr i j hi h2;rw[hn] at hrr ⊢;generalize es[i].cells[j]=y at *
     cases hrr;exact .int _ _
  | ref=>simp[D.byt1] at hx
  | fn=>simp[D.byt1] at hx
  | mpN=>simp[D.byt1] at hx
  | mp=>simp[D.byt1] at hx
theorem x5 {T T':ae} {us:List Value} {cs:List D} (hx:cs.all D.byt1=true) (h:ab (Reads T w) us cs) (H:∀ b i n,T b i→w.cell? ⟨b,i,none⟩=some (.int .u8 n)→T' b i):ab (Reads T' w) us cs:=by
  refine h.weak fun u c _ hc hr=>?_
  simp only[zf] at hx;exact hr.byt (hx c hc) H
theorem mP {S' S'':ae} {w':World} {B:Nat} {v:Value} {c:C} {bl:List Nat} (hs:∀ b i,S'' b i→S' b i) (H:∀ b i n,S' b i→w'.cell? ⟨b,i,none⟩=some (.int .u8 n)→S'' b i) (hf:c.byt=true) (h:cp S' w' B v c bl):cp S'' w' B v c bl:=by
  cases c <;> simp only[cp] at*<;> first | exact h.elim | skip
  ·exact⟨h.1.byt hf H,h.2⟩
  ·rename_i sz es;rcases h with h | ⟨b,cap,ty,N',h1,h2,h3,h4,h5,h6,f1,f2,cur,ty',fz,f3,f4,f5,f6⟩
   ·exact .inl h
   ·refine .inr ⟨b,cap,ty,N',h1,h2,h3,h4,h5,h6,f1,fun i hi=>f2 i (hs _ _ hi),cur,ty',fz,f3,f4,f5,fun i hi=>⟨(f6 i hi).1,fun j hj=>?_⟩⟩;obtain⟨u,g1,g2⟩:=(f6 i hi).2 j hj;refine⟨u,g1,g2.byt ?_ H⟩;simp only[C.byt,zf] at hf;exact hf es[i] (zx hi) _ (zx hj)
theorem vL {S' S'':ae} {w':World} {B:Nat} (hs:∀ b i,S'' b i→S' b i) (H:∀ b i n,S' b i→w'.cell? ⟨b,i,none⟩=some (.int .u8 n)→S'' b i) {us:List Value} {cs:List C} {bl:List Nat} (h:cD S' w' B us cs bl):cs.all C.byt=true→cD S'' w' B us cs bl:=by
  induction h with
  | nil=>intro _; exact .nil
  | cons h1 _ ih =>
    intro hf;simp only[List.all_cons,zi] at hf;exact .cons (mP hs H hf.1 h1) (ih hf.2)
theorem mQ {S' S'':ae} {w':World} {B:Nat} {v:Value} {x:W} {bl:List Nat} (hs:∀ b i,S'' b i→S' b i) (H:∀ b i n,S' b i→w'.cell? ⟨b,i,none⟩=some (.int .u8 n)→S'' b i) (hf:x.byt=true) (h:ca S' w' B v x bl):ca S'' w' B v x bl:=by
  unfold ca at *
  split at h
  ·obtain⟨⟨us,h1,h2⟩,h3⟩:=h;exact⟨⟨us,h1,x5 hf h2 H⟩,h3⟩
  ·rename_i hne;refine mP hs H ?_ h;unfold W.byt at hf;split at hf
   ·rename_i e1; cases e1; exact absurd rfl (hne _)
   ·rename_i e1; cases e1; exact hf
   ·rename_i e1; cases e1
  ·obtain⟨us,h1,h2⟩:=h;exact⟨us,h1,vL hs H h2 hf⟩
theorem vM {S' S'':ae} {w':World} {B:Nat} (hs:∀ b i,S'' b i→S' b i) (H:∀ b i n,S' b i→w'.cell? ⟨b,i,none⟩=some (.int .u8 n)→S'' b i) {us:List Value} {cs:List W} {bl:List Nat} (h:cE S' w' B us cs bl):cs.all W.byt=true→cE S'' w' B us cs bl:=by
  induction h with
  | nil=>intro _; exact .nil
  | cons h1 _ ih =>
    intro hf;simp only[List.all_cons,zi] at hf;exact .cons (mQ hs H hf.1 h1) (ih hf.2)
theorem wF {S' S'':ae} {w':World} {B:Nat} {v:Value} {x:V} {bl:List Nat} (hs:∀ b i,S'' b i→S' b i) (H:∀ b i n,S' b i→w'.cell? ⟨b,i,none⟩=some (.int .u8 n)→S'' b i) (hf:x.byt=true) (h:cP S' w' B v x bl):cP S'' w' B v x bl:=by
  cases x with
  | w x=>exact mQ hs H hf h
  | tup ws=>obtain⟨us,h1,h2⟩:=h; exact⟨us,h1,vM hs H h2 hf⟩
  | undef=>exact h
theorem x6 {S' T:ae} {w':World} {B:Nat} {us:List Value} {ws:List W} {bl:List Nat} (h:cE S' w' B us ws bl) (hT:∀ b i,S' b i→T b i) (hb:∀ b∈bl,∀ i,T b i):ab (RW m T w') us (ws.map W.ro)∧(ws.map W.ro).flatMap W.ids=[]:=by
  induction h with
  | nil=>exact⟨.nil,rfl⟩
  | cons h1 _ ih =>
    have h2:=jP (m:=m) h1 hT fun b hb'=>hb b (zb _ hb')
    have h3:=ih fun b hb'=>hb b (y1 _ hb')
    exact⟨.cons h2.1 h3.1,by rw[y5,y4,h2.2,h3.2]; rfl⟩
theorem xn (h:Inv G N Sin w0 σ a w S m) (hd:∀ t,o.dst=some t→t<N∧w0.fx t=none) {w':World} (hb:Below w.heap.size w w') {own:Option (Nat×Nat)} {v:Value} {res:V} {S':ae} {bl:List Nat} (hS':∀ b i,S' b i→(S b i∨w.heap.size≤b)∧b<w'.heap.size) (hn:bl.Nodup) (hres:cP S' w' w.heap.size v res bl)
    {r:R} (hr:br σ.h σ.u (o.dst.getD 0) own res=some r) (hK:K (σ.put o.dst r)):Nx G N Sin w0 K (a.put o.dst v) w':=by
  have fresh:∀ {c:W} {u:Value} {bk:List Nat},ca S' w' w.heap.size u c bk→∀ b∈bk,w.heap.size≤b∧b<w'.heap.size∧∀ i,¬ S' b i:=by
    have c0:∀ {c:C} {u:Value} {bk:List Nat},cp S' w' w.heap.size u c bk→∀ b∈bk,w.heap.size≤b∧b<w'.heap.size∧∀ i,¬ S' b i:=by
      intro c u bk hc b hbk;cases c <;> simp only[cp] at hc <;> first | exact hc.elim | skip
      ·rw[hc.2] at hbk; cases hbk
      ·rcases hc with ⟨_,_,rfl⟩ | ⟨b',cap,ty,N',rfl,_,_,_,_,_,hf⟩
       ·cases hbk
       ·simp only[zj] at hbk;subst hbk;obtain⟨f1,f2,cur,ty',fz,f3,_⟩:=hf;exact⟨f1,(y3.1 f3).1,f2⟩
    have cs0:∀ {us:List Value} {cs:List C} {bk:List Nat},cD S' w' w.heap.size us cs bk→∀ b∈bk,w.heap.size≤b∧b<w'.heap.size∧∀ i,¬ S' b i:=by
      intro us cs bk hc
      induction hc with
      | nil=>intro b hb; cases hb
      | cons h1 _ ih =>
        intro b hb;rcases ze.1 hb with hb | hb
        ·exact c0 h1 b hb
        ·exact ih b hb
    intro c u bk hc;unfold ca at hc;split at hc
    ·rw[hc.2]; intro b hb; cases hb
    ·exact c0 hc
    ·obtain⟨us,_,hc⟩:=hc; exact cs0 hc
  have freshs:∀ {us:List Value} {ws:List W} {bk:List Nat},cE S' w' w.heap.size us ws bk→∀ b∈bk,w.heap.size≤b∧b<w'.heap.size∧∀ i,¬ S' b i:=by
    intro us ws bk hc
    induction hc with
    | nil=>intro b hb; cases hb
    | cons h1 _ ih =>
      intro b hb;rcases ze.1 hb with hb | hb
      ·exact fresh h1 b hb
      ·exact ih b hb
  have allfresh:∀ b∈bl,w.heap.size≤b∧b<w'.heap.size∧∀ i,¬ S' b i:=by
    unfold cP at hres;split at hres
    ·exact fresh hres
    ·obtain⟨us,_,hres⟩:=hres; exact freshs hres
    ·exact hres.elim
  have T0:∀ (bx:Option Nat),∃ T:ae,(∀ b i,T b i→w.heap.size≤b∧b<w'.heap.size)∧(∀ b i,S' b i→S b i∨T b i)∧(∀ b∈bl,bx≠some b→∀ i,S b i∨T b i)∧(∀ b,bx=some b→b∈bl→∀ i,¬ (S b i∨T b i)):=by
    intro bx;refine⟨fun b i=>(S' b i∧w.heap.size≤b)∨(b∈bl∧bx≠some b),fun b i ht=>?_,fun b i hs=>?_,fun b hbl hne i=>.inr (.inr ⟨hbl,hne⟩),fun b he hbl i hh=>?_⟩
    ·rcases ht with ⟨h1,h2⟩ | h1
     ·exact⟨h2,(hS' b i h1).2⟩
     ·exact⟨(allfresh b h1.1).1,(allfresh b h1.1).2.1⟩
    ·rcases (hS' b i hs).1 with h1 | h1
     ·exact .inl h1
     ·exact .inr (.inl ⟨hs,h1⟩)
    ·rcases hh with hh | hh | hh
     ·have:=(h.sin b i hh).1;have:=(allfresh b hbl).1;omega
     ·exact (allfresh b hbl).2.2 i hh.1
     ·exact hh.2 he
  have only:r=(res.ro,σ.h,σ.u)→Nx G N Sin w0 K (a.put o.dst v) w':=by
    intro er;subst er;obtain⟨T,t1,t2,t3,_⟩:=T0 none;have h1:=h.callee hb T t1;have hv:RV m (fun b i=>S b i∨T b i) w' v res.ro∧res.ro.ids=[]:=by
      unfold cP at hres;split at hres
      ·exact jP hres t2 fun b hb=>t3 b hb (by simp)
      ·obtain⟨us,h2,h3⟩:=hres;have:=x6 (m:=m) h3 t2 fun b hb=>t3 b hb (by simp)
       exact⟨⟨us,h2,this.1⟩,this.2⟩
      ·exact hres.elim
    exact⟨_,_,_,hK,h1.put o.dst hd hv.1 fun i hi=>by rw[hv.2] at hi; cases hi⟩
  unfold br at hr;split at hr
  ·exact only (Option.some.inj hr).symm
  ·exact only (Option.some.inj hr).symm
  ·rename_i k sz0;obtain⟨sz,hsz⟩:∃ sz,sz=sz0+1:=⟨_,rfl⟩
   rw[← hsz] at hr
   have own1:∀ {u:Value} {es:List D} {bk:List Nat},σ.u (8*o.dst.getD 0)=false→ca S' w' w.heap.size u (.c (.fr sz es)) bk→(∀ b∈bk,b∈bl) →
       ∃ (T:ae) (m':Mp),Inv G N Sin w0 ⟨σ.f,upd σ.h (8*o.dst.getD 0) (some (.row sz es)),upd σ.u (8*o.dst.getD 0) true⟩ a w' (fun b i=>S b i∨T b i) m'∧RW m' (fun b i=>S b i∨T b i) w' u (.c (.own (8*o.dst.getD 0) sz 0 es.length))∧(∀ b i,S' b i→S b i∨T b i)∧(∀ b∈bl,b∉bk→∀ i,S b i∨T b i):=by
     intro u es bk hu hw hbk;rcases hw with ⟨⟨ad,rfl⟩,rfl,rfl⟩ | ⟨b,cap,ty,N',rfl,rfl,c1,c2,c3,c4,c5⟩
     ·obtain⟨T,t1,t2,t3,_⟩:=T0 none;have h1:=(h.callee hb T t1).newNil (sz:=sz) hu;exact⟨T,_,h1,vJ,t2,fun b hb _=>t3 b hb (by simp)⟩
     ·obtain⟨T,t1,t2,t3,t4⟩:=T0 (some b);have hbl:=hbk b (by simp);have h1:=(h.callee hb T t1).adopt hu c5 (fun v x hr _=>hr.mono t2) h.bsize (t4 b rfl hbl) (fun id' ob b' s g1 g2 e=>by
        have:=(h.obj id' ob g1).1.lt g2;have:=(allfresh b hbl).1;omega)
      exact⟨T,_,h1,x4 c1 c2 c3 c4,t2,fun b' hb' hn'=>t3 b' hb' fun e=>hn' (by cases e; simp)⟩
   unfold cV at hr;split at hr
   ·rename_i sz' es;split at hr
    ·rename_i hc;obtain⟨rfl,rfl,hu⟩:=hc;cases hr;obtain⟨T,m',h1,h2,_⟩:=own1 hu hres fun b hb=>hb
     exact⟨_,_,_,hK,h1.put o.dst hd (x:=.w (.c (.own (8*o.dst.getD 0) sz' 0 es.length))) h2 fun i hi=>by
       simp only[V.ids,W.ids,C.ids,zj] at hi;subst hi;simp[upd]⟩
    ·cases hr
   ·rename_i ws;split at hr
    ·rename_i sz' es hk;split at hr
     ·rename_i hc;obtain⟨rfl,hu⟩:=hc;cases hr;obtain⟨us,rfl,hws⟩:=hres;obtain⟨u,bk,g1,g2,g3,g4⟩:=vF hws hn k _ hk;obtain⟨T,m',h1,h2,h3,h4⟩:=own1 hu g2 g3;have hlen:=vG hws;have hkl:k<ws.length:=(y6.1 hk).1;have all:∀ j z,ws[j]?=some z→j≠k→∃ u',us[j]?=some u'∧RW m' (fun b i=>S b i∨T b i) w' u' z.ro∧z.ro.ids=[]:=by
        intro j z hz hj;obtain⟨u',bj,q1,q2,q3⟩:=g4 j hj z hz;have:=jP (m:=m') q2 h3 fun b hb=>h4 b (q3 b hb).1 (q3 b hb).2
        exact⟨u',q1,this⟩
      refine⟨_,_,_,hK,h1.put o.dst hd (x:=.tup _) ⟨us,rfl,.mk (by simp[hlen]) fun j j1 j2=>?_⟩ fun i hi=>?_⟩
      ·simp only[z1,zk];by_cases e:k=j
       ·subst e;rw[if_pos rfl];have e2:us[k]=u:=by
          have:=yZ j1;rw[g1] at this;exact (Option.some.inj this).symm
        rw[e2]; exact h2
       ·rw[if_neg e];have j3:j<ws.length:=by omega
        obtain⟨u',q1,q2,_⟩:=all j ws[j] (yZ j3) (fun e'=>e e'.symm);have e2:us[j]=u':=by
          have:=yZ j1;rw[q1] at this;exact (Option.some.inj this).symm
        rw[e2]; exact q2
      ·simp only[V.ids,y0] at hi;obtain⟨z,hz,hi⟩:=hi;obtain⟨j,hj,rfl⟩:=zr hz;simp only[z1,zk] at hi;by_cases e:k=j
       ·rw[if_pos e] at hi;simp only[W.ids,C.ids,zj] at hi;subst hi;simp[upd]
       ·rw[if_neg e] at hi;have j3:j<ws.length:=by simpa using hj
        obtain⟨u',q1,_,q2⟩:=all j ws[j] (yZ j3) (fun e'=>e e'.symm);rw[q2] at hi;cases hi
     ·cases hr
    ·cases hr
   ·rename_i cs;split at hr
    ·rename_i sz' es hk;split at hr
     ·rename_i hc;obtain⟨rfl,hu⟩:=hc;cases hr;obtain⟨us,rfl,hws⟩:∃ us:List Value,v=.agg us.toArray∧cD S' w' w.heap.size us cs bl:=hres
      obtain⟨u,bk,g1,g2,g3,g4⟩:=vH hws hn k _ hk;obtain⟨T,m',h1,h2,h3,h4⟩:=own1 hu (show ca S' w' w.heap.size u (.c (.fr sz' es)) bk from g2) g3;have hlen:=vI hws;have hkl:k<cs.length:=(y6.1 hk).1;have all:∀ j z,cs[j]?=some z→j≠k→∃ u',us[j]?=some u'∧RC m' (fun b i=>S b i∨T b i) w' u' z.ro∧z.ro.ids=[]:=by
        intro j z hz hj;obtain⟨u',bj,q1,q2,q3⟩:=g4 j hj z hz;have:=jt (m:=m') q2 h3 fun b hb=>h4 b (q3 b hb).1 (q3 b hb).2
        exact⟨u',q1,this⟩
      refine⟨_,_,_,hK,h1.put o.dst hd (x:=.w (.mix _)) ⟨us,rfl,.mk (by simp[hlen]) fun j j1 j2=>?_⟩ fun i hi=>?_⟩
      ·simp only[z1,zk];by_cases e:k=j
       ·subst e;rw[if_pos rfl];have e2:us[k]=u:=by
          have:=yZ j1;rw[g1] at this;exact (Option.some.inj this).symm
        rw[e2]; exact h2
       ·rw[if_neg e];have j3:j<cs.length:=by omega
        obtain⟨u',q1,q2,_⟩:=all j cs[j] (yZ j3) (fun e'=>e e'.symm);have e2:us[j]=u':=by
          have:=yZ j1;rw[q1] at this;exact (Option.some.inj this).symm
        rw[e2]; exact q2
      ·simp only[V.ids,W.ids,y0] at hi;obtain⟨z,hz,hi⟩:=hi;obtain⟨j,hj,rfl⟩:=zr hz;simp only[z1,zk] at hi;by_cases e:k=j
       ·rw[if_pos e] at hi;simp only[C.ids,zj] at hi;subst hi;simp[upd]
       ·rw[if_neg e] at hi;have j3:j<cs.length:=by simpa using hj
        obtain⟨u',q1,_,q2⟩:=all j cs[j] (yZ j3) (fun e'=>e e'.symm);rw[q2] at hi;cases hi
     ·cases hr
    ·cases hr
   ·cases hr
theorem xo {g:Nat→Nat} {cs:List C} {us:List Value} {m:Mp} (h:ab (RC m S w) us (cs.map (C.ren g))) (k:∀ v c,RC m S w v (c.ren g)→RC (fun i=>m (g i)) S w v c):ab (RC (fun i=>m (g i)) S w) us cs:=by
  have hl:=h.length;rw[zq] at hl;refine .mk hl fun i h1 h2=>?_
  have:=h.get i h1 (by simpa using h2);rw[zk] at this;exact k _ _ this
theorem gT {g:Nat→Nat} {us:List Value}:∀ {cs:List Cp},ab (bJ m S w) us (cs.map (Cp.ren g))↔ab (bJ (fun i=>m (g i)) S w) us cs:=by
  have one:∀ (v:Value) (c:Cp),bJ m S w v (c.ren g)↔bJ (fun i=>m (g i)) S w v c:=fun v c=>by cases c <;> exact Iff.rfl
  intro cs;constructor <;> intro h
  ·have hl:=h.length;rw[zq] at hl;refine .mk hl fun i h1 h2=>?_
   have:=h.get i h1 (by simpa using h2);rw[zk] at this;exact (one _ _).1 this
  ·have hl:=h.length;refine .mk (by simpa using hl) fun i h1 h2=>?_
   rw[zk];exact (one _ _).2 (h.get i h1 (by simpa using h2))
theorem RC.ren {g:Nat→Nat} {v:Value} {c:C} (h:RC m S w v (c.ren g)):RC (fun i=>m (g i)) S w v c:=by
  cases c with
  | cf f pre post =>
    obtain⟨us,vs,h1,h2,h3⟩:=h;exact⟨us,vs,h1,gT.1 h2,gT.1 h3⟩
  | _=>exact h
theorem RC.unren {g:Nat→Nat} {v:Value} {c:C} (h:RC (fun i=>m (g i)) S w v c):RC m S w v (c.ren g):=by
  cases c with
  | cf f pre post =>
    obtain⟨us,vs,h1,h2,h3⟩:=h;exact⟨us,vs,h1,gT.2 h2,gT.2 h3⟩
  | _=>exact h
theorem ab.mapR {α β γ:Type} {R:α→γ→Prop} {R':α→β→Prop} {f:β→γ} {us:List α} {cs:List β} (h:ab R' us cs) (k:∀ u c,R' u c→R u (f c)):ab R us (cs.map f):=by
  induction h with
  | nil=>exact .nil
  | cons h1 _ ih=>exact .cons (k _ _ h1) ih
theorem RW.unren {g:Nat→Nat} {v:Value} {x:W} (h:RW (fun i=>m (g i)) S w v x):RW m S w v (x.ren g):=by
  cases x with
  | c c =>
    cases c with
    | d x=>cases x <;> exact h
    | cf f pre post=>exact RC.unren (c:=.cf f pre post) h
    | _=>exact h
  | mix cs =>
    obtain⟨us,h1,h2⟩:=h;exact⟨us,h1,h2.mapR fun _ _ h=>h.unren⟩
theorem RV.unren {g:Nat→Nat} {v:Value} {x:V} (h:RV (fun i=>m (g i)) S w v x):RV m S w v (x.ren g):=by
  cases x with
  | w x=>exact RW.unren h
  | tup ws =>
    obtain⟨us,h1,h2⟩:=h;exact⟨us,h1,h2.mapR fun _ _ h=>h.unren⟩
  | undef=>trivial
theorem aG.unren {g:Nat→Nat} {sz:Nat} {cur:Array Value} {o:Ob} (h:aG (fun i=>m (g i)) S w sz cur o):aG m S w sz cur (o.ren g):=by
  cases o with
  | mp q es=>trivial
  | it q l p=>trivial
  | row s es=>exact h
  | box cs =>
    obtain⟨h1,h2⟩:=h;refine⟨by rw[zq]; exact h1,fun j hj=>?_⟩;obtain⟨v,k1,k2⟩:=h2 j (by simpa using hj);refine⟨v,k1,?_⟩;rw[zk];exact k2.unren
theorem Cp.ids_ren (g:Nat→Nat) (c:Cp):(c.ren g).ids=c.ids.map g:=by cases c <;> rfl
theorem fT {α:Type} (f:α→List Nat) (r:α→α) (g:Nat→Nat) (h:∀ x,f (r x)=(f x).map g) (l:List α):(l.map r).flatMap f=(l.flatMap f).map g:=by
  induction l with
  | nil=>rfl
  | cons a l ih=>simp only[y5,y4,ih,h,List.map_append]
theorem C.ids_ren (g:Nat→Nat) (c:C):(c.ren g).ids=c.ids.map g:=by
  cases c with
  | cf f pre post=>simp only[C.ren,C.ids,fT _ _ g (Cp.ids_ren g),List.map_append]
  | _=>rfl
theorem W.ids_ren (g:Nat→Nat) (x:W):(x.ren g).ids=x.ids.map g:=by
  cases x with
  | c c=>exact C.ids_ren g c
  | mix cs=>exact fT _ _ g (C.ids_ren g) cs
theorem V.ids_ren (g:Nat→Nat) (x:V):(x.ren g).ids=x.ids.map g:=by
  cases x with
  | w x=>exact W.ids_ren g x
  | tup ws=>exact fT _ _ g (W.ids_ren g) ws
  | undef=>rfl
theorem Ob.ids_ren (g:Nat→Nat) (o:Ob):(o.ren g).ids=o.ids.map g:=by
  cases o with
  | mp q es=>exact fT (fun p:Int×C=>p.2.ids) (fun p=>(p.1,p.2.ren g)) g (fun p=>C.ids_ren g p.2) es
  | it q l p=>rfl
  | row s es=>rfl
  | box cs=>exact fT _ _ g (C.ids_ren g) cs
theorem Ob.sz_ren (g:Nat→Nat) (o:Ob):(o.ren g).sz=o.sz:=by cases o <;> rfl
theorem RW.ren {g:Nat→Nat} {v:Value} {x:W} (h:RW m S w v (x.ren g)):RW (fun i=>m (g i)) S w v x:=by
  cases x with
  | c c =>
    cases c with
    | d x=>cases x <;> exact h
    | cf f pre post=>exact RC.ren (c:=.cf f pre post) h
    | _=>exact h
  | mix cs =>
    obtain⟨us,h1,h2⟩:=h;exact⟨us,h1,xo h2 fun _ _ h=>h.ren⟩
theorem RV.ren {g:Nat→Nat} {v:Value} {x:V} (h:RV m S w v (x.ren g)):RV (fun i=>m (g i)) S w v x:=by
  cases x with
  | w x=>exact RW.ren h
  | tup ws =>
    obtain⟨us,h1,h2⟩:=h;have hl:=h2.length;rw[zq] at hl;refine⟨us,h1,.mk hl fun i k1 k2=>?_⟩;have:=h2.get i k1 (by simpa using k2);rw[zk] at this;exact this.ren
  | undef=>trivial
theorem aG.ren {g:Nat→Nat} {sz:Nat} {cur:Array Value} {o:Ob} (h:aG m S w sz cur (o.ren g)):aG (fun i=>m (g i)) S w sz cur o:=by
  cases o with
  | mp q es=>trivial
  | it q l p=>trivial
  | row s es=>exact h
  | box cs =>
    obtain⟨h1,h2⟩:=h;rw[zq] at h1;refine⟨h1,fun j hj=>?_⟩;obtain⟨v,k1,k2⟩:=h2 j (by simpa using hj);rw[zk] at k2;exact⟨v,k1,k2.ren⟩
theorem ab.mapL {α β γ:Type} {R:α→γ→Prop} {R':α→β→Prop} {f:β→γ}:∀ {us:List α} {cs:List β},ab R us (cs.map f)→(∀ u c,R u (f c)→R' u c)→ab R' us cs
  | [],[],_,_=>.nil
  | _::_,[],h,_=>by cases h
  | [],_::_,h,_=>by cases h
  | _::_,_::_,.cons h1 h2,k=>.cons (k _ _ h1) (ab.mapL h2 k)
theorem bC.ren {g:Nat→Nat} {b:Nat} {cur:Array Value} {ty:TypeId} {fz:Nat×Nat} {o:Ob} (h:bC m S w b cur ty fz (o.ren g)):bC (fun i=>m (g i)) S w b cur ty fz o:=by
  cases o with
  | row s es=>exact h
  | box cs=>exact h
  | it q l p=>exact h
  | mp q es =>
    obtain⟨E,c,h1,h2,h3⟩:=h;exact⟨E,c,h1,ab.mapL (f:=fun p:Int×C=>(p.1,p.2.ren g)) h2 fun _ _ h=>⟨h.1,RW.ren (x:=.c _) h.2⟩,h3⟩
theorem bC.unren {g:Nat→Nat} {b:Nat} {cur:Array Value} {ty:TypeId} {fz:Nat×Nat} {o:Ob} (h:bC (fun i=>m (g i)) S w b cur ty fz o):bC m S w b cur ty fz (o.ren g):=by
  cases o with
  | row s es=>exact h
  | box cs=>exact h
  | it q l p=>exact h
  | mp q es =>
    obtain⟨E,c,h1,h2,h3⟩:=h;exact⟨E,c,h1,ab.mapR (f:=fun p:Int×C=>(p.1,p.2.ren g)) h2 fun _ _ h=>⟨h.1,RW.unren (x:=.c _) h.2⟩,h3⟩
theorem aA.ren {g:Nat→Nat} {B:Nat→Prop} {id:Nat} {o:Ob} (h:aA m S B w (g id) (o.ren g)):aA (fun i=>m (g i)) S B w id o:=by
  unfold aA at h ⊢
  show match m (g id) with | none=>_ | some (b,sz)=>_
  split at h
  ·obtain⟨sz,e⟩:=h;rename_i hm;rw[hm];cases o with
   | row s es=>exact⟨sz,e⟩
   | box cs=>cases e
   | mp q es=>cases e
   | it q l p=>cases e
  ·rename_i b sz hm;rw[hm];obtain⟨k1,k2,k3,cur,ty,fz,k4,k5,k6⟩:=h;exact⟨(Ob.sz_ren g o).symm.trans k1,k2,k3,cur,ty,fz,k4.ren,k5,k6.ren⟩
theorem aA.unren {g:Nat→Nat} {B:Nat→Prop} {id:Nat} {o:Ob} (h:aA (fun i=>m (g i)) S B w id o):aA m S B w (g id) (o.ren g):=by
  unfold aA at h ⊢;change (match m (g id) with | none=>_ | some (b,sz)=>_) at h;split at h
  ·obtain⟨sz,e⟩:=h;rename_i hm;rw[hm];exact⟨sz,by rw[e]; rfl⟩
  ·rename_i b sz hm;rw[hm];obtain⟨k1,k2,k3,cur,ty,fz,k4,k5,k6⟩:=h;exact⟨(Ob.sz_ren g o).trans k1,k2,k3,cur,ty,fz,k4.unren,k5,k6.unren⟩
theorem aA.may {B C:Nat→Prop} {id:Nat} {o:Ob} (h:aA m S B w id o) (k:∀ b,B b→C b):aA m S C w id o:=by
  unfold aA at h ⊢;split at h
  ·exact h
  ·obtain⟨k1,k2,k3⟩:=h;exact⟨k1,k _ k2,k3⟩
theorem aG.congr {m':Mp} {sz:Nat} {cur:Array Value} {o:Ob} (h:aG m S w sz cur o) (e:∀ i∈o.ids,m' i=m i):aG m' S w sz cur o:=h.step (aw.refl _ _) (fun _ _ h=>h) e
theorem aA.congr {m':Mp} {B:Nat→Prop} {id:Nat} {o:Ob} (h:aA m S B w id o) (e0:m' id=m id) (e:∀ i∈o.ids,m' i=m i):aA m' S B w id o:=by
  unfold aA at h ⊢;rw[e0];split at h
  ·exact h
  ·obtain⟨k1,k2,k3,cur,ty,fz,k4,k5,k6⟩:=h;exact⟨k1,k2,k3,cur,ty,fz,k4.step (aw.refl _ _) (fun _ _ h=>h) e rfl,k5,k6.congr e⟩
theorem aA.blk {B:Nat→Prop} {id:Nat} {o:Ob} (h:aA m S B w id o) {b s:Nat} (hm:m id=some (b,s)):B b:=by
  unfold aA at h;rw[hm] at h;exact h.2.1
theorem x7 (h:Inv G N Sin w0 σ a w S m) (hd:∀ t,o.dst=some t→t<N∧w0.fx t=none) {f:FuncId} {xs:List W} {vs:List Value} (hvs:ab (fun v x=>RW m S w v x) vs xs) {r:R} (hr:dV P G σ.h σ.u f xs r) (hK:K (σ.put o.dst r)) :
    Calls P f vs.toArray w fun e w'=>∃ v,e=.returned v∧Nx G N Sin w0 K (a.put o.dst v) w':=by
  obtain⟨g,args,h0,L,res,h1,L1,⟨⟨p1,p2,p3,p4,p5⟩,hden⟩,rfl,hh0,hinj,hfresh,_,rfl⟩:=hr;have live:∀ id∈L,∃ o,h0 id=some o∧σ.h (g id)=some (o.ren g):=fun id hid=>by
    obtain⟨o,ho⟩:=y7.1 (p2 id hid);exact⟨o,ho,hh0 id o ho⟩
  have usedL:∀ id∈L,σ.u (g id)=true:=fun id hid=>by obtain⟨o,_,ho⟩:=live id hid; exact (h.obj _ _ ho).2.1
  refine (hden w S vs (fun i=>m (g i)) (fun b i hs=>(h.sin b i hs).1) h.glob (fun id o ho=>?_) (fun i j b s s' hi hj e1 e2=>?_) ?_).mono ?_
  ·exact ((h.obj _ _ (hh0 id o ho)).1.may fun _ _=>trivial).ren
  ·obtain⟨oi,hi'⟩:=y7.1 hi;obtain⟨oj,hj'⟩:=y7.1 hj;exact hinj i (zb _ (p1 i oi hi').1) j (zb _ (p1 j oj hj').1) (h.inj (g i) (g j) b s s' (by rw[hh0 i oi hi']; simp) (by rw[hh0 j oj hj']; simp) e1 e2)
  ·have hl:=hvs.length;rw[zq] at hl;refine .mk hl fun i i1 i2=>?_
   have:=hvs.get i i1 (by simpa using i2);rw[zk] at this;exact this.ren
  rintro e w' ⟨v,S',m',rfl,hbel,hko,hkeep,hSS,hS',hmL,hob1,hinj1,hres⟩;refine⟨v,rfl,?_⟩;have blkMay:∀ b,fa h0 (fun i=>m (g i)) b→w0.may b:=by
    rintro b ⟨id,o,s,ho,hm⟩;exact (h.obj _ _ (hh0 id o ho)).1.blk hm
  obtain⟨m2,hm2⟩:∃ m2:Mp,m2=fun i=>match L1.find? (fun id=>g id==i&&!L.contains id) with | some id=>m' id | none=>m i:=⟨_,rfl⟩
  have mold:∀ i,σ.u i=true→m2 i=m i:=by
    intro i hi;rw[hm2];simp only;split
    ·rename_i id hf;have h1:=zD hf;have h2:=List.find?_some hf;simp only[zi,beq_iff_eq,Bool.not_eq_true',List.contains_eq_mem,decide_eq_false_iff_not] at h2;have:=hfresh id h1 h2.2;rw[h2.1,hi] at this;cases this
    ·rfl
  have mnew:∀ id∈L1,m2 (g id)=m' id:=by
    intro id hl1;by_cases hl:id∈L
    ·rw[mold _ (usedL id hl),hmL id hl hl1]
    ·rw[hm2];simp only;split
     ·rename_i id' hf;have h1:=zD hf;have h2:=List.find?_some hf;simp only[zi,beq_iff_eq] at h2;rw[hinj id' (y1 _ h1) id (y1 _ hl1) h2.1]
     ·rename_i hf;have:=List.find?_eq_none.1 hf id hl1;simp[hl] at this
  have unew:∀ id∈L1,dd σ.u g L1 (g id)=true:=by
    intro id hl;unfold dd;rw[Bool.or_eq_true];exact .inr (zR.2 ⟨id,hl,by simp⟩)
  have frame:∀ i ob b s,σ.h i=some ob→(∀ id∈L,g id≠i)→m i=some (b,s)→b<w.heap.size∧¬ fa h0 (fun i=>m (g i)) b∧w'.heap[b]?=w.heap[b]?∧∀ j,¬ S' b j:=by
    intro i ob b s ho hn hm;have hlt:=(h.obj i ob ho).1.lt hm;have hnb:¬ fa h0 (fun i=>m (g i)) b:=by
      rintro⟨id,o',s',ho',hm'⟩;exact hn id (p1 id o' ho').1 (h.inj (g id) i b s' s (by rw[hh0 id o' ho']; simp) (by rw[ho]; simp) hm' hm)
    refine⟨hlt,hnb,hbel.block b hlt hnb,fun j hj=>?_⟩;rcases (hS' b j hj).2 with h1 | h1 | h1
    ·exact (h.obj i ob ho).1.apart hm j h1
    ·omega
    ·exact hnb h1
  have split:∀ i ob,cU σ.h g L L1 h1 i=some ob→(∃ id o,id∈L1∧g id=i∧h1 id=some o∧ob=o.ren g)∨((∀ id∈L,g id≠i)∧(∀ id∈L1,g id≠i)∧σ.h i=some ob):=by
    intro i ob hi;unfold cU at hi;split at hi
    ·rename_i id hf;have k1:=zD hf;have k2:=List.find?_some hf;simp only[beq_iff_eq] at k2;simp only[yX] at hi;obtain⟨o,ho,rfl⟩:=hi;exact .inl ⟨id,o,k1,k2,ho,rfl⟩
    ·rename_i hf;split at hi
     ·cases hi
     ·rename_i hany;refine .inr ⟨fun id hid e=>hany (zR.2 ⟨id,hid,by simp[e]⟩),fun id hid e=>?_,hi⟩;have:=List.find?_eq_none.1 hf id hid;simp[e] at this
  have hI:Inv G N Sin w0 ⟨σ.f,cU σ.h g L L1 h1,dd σ.u g L1⟩ a w' S' m2:=by
    refine h.move hkeep hko hSS mold (fun i hi=>by unfold dd; rw[hi,Bool.true_or]) (fun i ob hi=>?_) (fun i j b s s' hi hj e1 e2=>?_) (fun b i hs=>?_) (h.below.trans (hbel.mono h.bsize fun b hb hx=>(blkMay b hx).resolve_left (by omega)))
    ·rcases split i ob hi with ⟨id,o,k1,rfl,k3,rfl⟩ | ⟨k1,k2,k3⟩
     ·have k4:=hob1 id o k3;have k5:=(p4 id o k3).2;refine⟨aA.unren ((k4.congr (m':=fun i=>m2 (g i)) (mnew id k1) fun j hj=>mnew j (k5 j hj)).may fun b hb=>?_),unew id k1,fun j hj=>?_⟩
      ·rcases hb with hb | hb
       ·exact .inl (zy h.bsize hb)
       ·exact blkMay b hb
      ·rw[Ob.ids_ren] at hj;obtain⟨j',hj',rfl⟩:=za.1 hj;exact unew j' (k5 j' hj')
     ·have k4:=h.obj i ob k3;refine⟨k4.1.step hkeep hSS (fun j hj=>mold j (k4.2.2 j hj)) (mold i k4.2.1) fun b s hm=>?_,?_,fun j hj=>?_⟩
      ·obtain⟨_,_,q3,q4⟩:=frame i ob b s k3 k1 hm;exact⟨q3,q4⟩
      ·unfold dd; rw[k4.2.1,Bool.true_or]
      ·unfold dd; rw[k4.2.2 j hj,Bool.true_or]
    ·obtain⟨oi,hi'⟩:=y7.1 hi;obtain⟨oj,hj'⟩:=y7.1 hj;have mixed:∀ i j b s s' oi id o,(∀ id∈L,g id≠i)→σ.h i=some oi→id∈L1→h1 id=some o→g id=j→m2 i=some (b,s)→m2 j=some (b,s')→False:=by
       rintro i j b s s' oi id o q1 q2 q3 q4 rfl e1 e2;rw[mold i (h.obj i oi q2).2.1] at e1;rw[mnew id q3] at e2;obtain⟨t1,t2,_,_⟩:=frame i oi b s q2 q1 e1;rcases (hob1 id o q4).blk e2 with hb | hb
       ·omega
       ·exact t2 hb
     rcases split i oi hi' with ⟨id,o,k1,k2,k3,_⟩ | ⟨k1,k2,k3⟩ <;> rcases split j oj hj' with ⟨id',o',q1,q2,q3,_⟩ | ⟨q1,q2,q3⟩
     ·subst k2 q2;rw[mnew id k1] at e1;rw[mnew id' q1] at e2;rw[hinj1 id id' b s s' (by rw[k3]; simp) (by rw[q3]; simp) e1 e2]
     ·exact (mixed j i b s' s oj id o q1 q3 k1 k3 k2 e2 e1).elim
     ·exact (mixed i j b s s' oi id' o' k1 k3 q1 q3 q2 e1 e2).elim
     ·rw[mold i (h.obj i oi k3).2.1] at e1;rw[mold j (h.obj j oj q3).2.1] at e2;exact h.inj i j b s s' (by rw[k3]; simp) (by rw[q3]; simp) e1 e2
    ·obtain⟨k1,k2⟩:=hS' b i hs;refine⟨k1,?_⟩;rcases k2 with k2 | k2 | k2
     ·exact (h.sin b i k2).2
     ·exact .inr (.inl (zy h.bsize k2))
     ·exact .inr (blkMay b k2)
  refine⟨_,S',m2,hK,hI.put o.dst hd (x:=res.ren g) (RV.unren (hres.congr fun i hi=>mnew i (p5 i hi))) fun i hi=>?_⟩;rw[V.ids_ren] at hi;obtain⟨i',hi',rfl⟩:=za.1 hi;exact unew i' (p5 i' hi')
end
end Go.Proofs.Yteohdchecapkfaa
