/- Texts of one's own, merged: from: Layer 17,without code: extension fields,their sizes and bytes,and what is read of bytes. Own work. -/
import Derived.Test.YtcikhnjfkfigjaaMg311
import Derived.Test.YtcikhnjfkfigjaaMg39
set_option linter.unusedVariables false
set_option linter.unusedSimpArgs false
namespace Go.Proofs.Ytcikhnjfkfigjaa
open Go.RowKit
structure Fd where
  ty:Int
  da:List UInt8
deriving DecidableEq,Inhabited
def fdD (f:Fd):D:=.agg [.int .i64 f.ty,.sl (f.da.map bD)]
def fdF (f:Fd):Prop:=fitI f.ty∧f.da.length≤maxLen
theorem fdD_cells (f:Fd):(fdD f).cells=[.int .i64 f.ty,.sl (f.da.map bD)]:=rfl
theorem allSz_fd (l:List Fd):allSz 2 (l.map fdD)=true:=by
  unfold allSz
  rw[List.all_eq_true]
  intro d hd
  obtain⟨x,_,rfl⟩:=List.mem_map.1 hd
  rfl
theorem is_fields {x:D} (h:IsSh (.sl [.int .i64,.sl [.int .u8]]) x):∃ l:List Fd,x=.sl (l.map fdD)∧l.length≤maxLen∧∀ f∈l,fdF f:=by
  cases x <;> simp only[IsSh] at h
  rename_i es
  obtain⟨h1,h2⟩:=h
  have key:∀ es:List D,(∀ e∈es,([Sh.int .i64,Sh.sl [.int .u8]].length=1→e.one=true)∧([Sh.int .i64,Sh.sl [.int .u8]].length≠1→e=.agg e.cells)∧IsShs [.int .i64,.sl [.int .u8]] e.cells)→∃ l:List Fd,es=l.map fdD∧∀ f∈l,fdF f:=by
    intro es
    induction es with
    | nil=>intro _; exact⟨[],rfl,fun p hp=>by cases hp⟩
    | cons e r ih =>
      intro h
      obtain⟨l,hl,hf⟩:=ih fun x hx=>h x (List.mem_cons_of_mem _ hx)
      obtain⟨_,h4,h5⟩:=h e List.mem_cons_self
      have h4:=h4 (by decide)
      obtain⟨a,c1,e1,ha,h5⟩:=shs_cons h5
      obtain⟨b,c2,e2,hb,h5⟩:=shs_cons h5
      have e3:=shs_nil h5
      obtain⟨n,rfl,n1,n2⟩:=is_i64 ha
      obtain⟨m,rfl,m1⟩:=is_bytes hb
      refine⟨⟨n,m⟩::l,?_,fun p hp=>?_⟩
      ·rw[List.map_cons,← hl,h4,e1,e2,e3]; rfl
      ·rcases List.mem_cons.1 hp with rfl | hp
       ·exact⟨⟨n1,n2⟩,m1⟩
       ·exact hf p hp
  obtain⟨l,rfl,hf⟩:=key es h2
  exact⟨l,rfl,by simpa using h1,hf⟩
def xsT (f:Fd):Nat:=max 16 ((f.da.length+7) / 4*4)
def xsE (f:Fd):Int:=if f.ty<0∨65535<f.ty then 4 else if 1232<xsT f then 2 else 0
def xsN (f:Fd):Nat:=if xsE f=0 then xsT f else 0
def xfB (f:Fd):List UInt8:=putL f.ty.toNat 2++(putL (xsT f) 2++(f.da++List.replicate (xsT f-4-f.da.length) 0))
def padF (f:Fd):Fd:=⟨f.ty,f.da++List.replicate (xsT f-4-f.da.length) 0⟩
theorem xsT_16 (f:Fd):16≤xsT f:=Nat.le_max_left _ _
theorem xsT_len (f:Fd):4+f.da.length≤xsT f:=by unfold xsT; omega
theorem xsT_mod (f:Fd):xsT f%4=0:=by unfold xsT; omega
theorem xsT_pad (f:Fd):xsT f-4-f.da.length≤12:=by unfold xsT; omega
theorem xsT_lt (f:Fd):xsT f≤f.da.length+16:=by unfold xsT; omega
theorem xfB_len (f:Fd):(xfB f).length=xsT f:=by
  have:=xsT_len f
  simp[xfB,putL_length]; omega
theorem xsE_0 {f:Fd} (h:xsE f=0):0≤f.ty∧f.ty≤65535∧xsT f≤1232:=by
  unfold xsE at h
  split at h
  ·cases h
  ·split at h
   ·cases h
   ·omega
theorem xsE_of {f:Fd} (h1:0≤f.ty) (h2:f.ty≤65535) (h3:xsT f≤1232):xsE f=0:=by
  unfold xsE
  rw[if_neg (by omega),if_neg (by omega)]
def xfE:List Fd→Int
  | []=>0
  | f::r=>if xsE f=0 then xfE r else xsE f
def xtot (l:List Fd):Nat:=(l.map xsT).sum
def xall (l:List Fd):List UInt8:=l.flatMap xfB
def xeE (l:List Fd):Int:=if xfE l=0 then (if 24<l.length then 8 else if 1232<xtot l then 2 else 0) else xfE l
def xeB (l:List Fd):List UInt8:=if xeE l=0 then xall l else []
theorem xtot_nil:xtot []=0:=rfl
theorem xtot_cons (f:Fd) (l:List Fd):xtot (f::l)=xsT f+xtot l:=rfl
theorem xtot_app (a b:List Fd):xtot (a++b)=xtot a+xtot b:=by simp[xtot]
theorem xall_nil:xall []=[]:=rfl
theorem xall_cons (f:Fd) (l:List Fd):xall (f::l)=xfB f++xall l:=rfl
theorem xall_app (a b:List Fd):xall (a++b)=xall a++xall b:=by simp[xall]
theorem xall_len (l:List Fd):(xall l).length=xtot l:=by
  induction l with
  | nil=>rfl
  | cons f l ih=>rw[xall_cons,List.length_append,ih,xfB_len,xtot_cons]
theorem xfE_0 {l:List Fd}:xfE l=0↔∀ f∈l,xsE f=0:=by
  induction l with
  | nil=>exact⟨fun _ f hf=>(by cases hf),fun _=>rfl⟩
  | cons f l ih =>
    unfold xfE
    by_cases h:xsE f=0
    ·rw[if_pos h,ih]
     simp[h]
    ·rw[if_neg h]
     exact⟨fun e=>absurd e h,fun e=>absurd (e f (by simp)) h⟩
theorem xfE_app (a b:List Fd):xfE (a++b)=if xfE a=0 then xfE b else xfE a:=by
  induction a with
  | nil=>rfl
  | cons f a ih =>
    rw[List.cons_append,xfE,xfE]
    by_cases h:xsE f=0
    ·rw[if_pos h,if_pos h,ih]
    ·rw[if_neg h,if_neg h,if_neg h]
theorem take_snoc {l:List Fd} {i:Nat} (h:i<l.length):l.take (i+1)=l.take i++[l.getD i default]:=by
  rw[List.take_add_one,List.getElem?_eq_getElem h,List.getD_eq_getElem?_getD,List.getElem?_eq_getElem h]
  rfl
theorem xtot_take {l:List Fd} {i:Nat} (h:i<l.length):xtot (l.take (i+1))=xtot (l.take i)+xsT (l.getD i default):=by
  rw[take_snoc h,xtot_app]; rfl
theorem xall_take {l:List Fd} {i:Nat} (h:i<l.length):xall (l.take (i+1))=xall (l.take i)++xfB (l.getD i default):=by
  rw[take_snoc h,xall_app]; simp[xall]
theorem xtot_le (l:List Fd) (i:Nat):xtot (l.take i)≤xtot l:=by
  conv=>rhs; rw[← List.take_append_drop i l]
  rw[xtot_app]; omega
theorem xfE_take {l:List Fd} {i:Nat} (h:i<l.length) (h0:xfE (l.take i)=0):xfE (l.take (i+1))=xsE (l.getD i default):=by
  rw[take_snoc h,xfE_app,if_pos h0,xfE]
  by_cases e:xsE (l.getD i default)=0
  ·rw[if_pos e,e]; rfl
  ·rw[if_neg e]
theorem xfE_stop {l:List Fd} {i:Nat} (h:i<l.length) (h0:xfE (l.take i)=0) (he:xsE (l.getD i default)≠0):xfE l=xsE (l.getD i default):=by
  have h1:xfE (l.take (i+1))=xsE (l.getD i default):=xfE_take h h0
  conv=>lhs; rw[← List.take_append_drop (i+1) l]
  rw[xfE_app,h1,if_neg he]
theorem xtot_bd (l:List Fd) (h:∀ f∈l,xsE f=0):xtot l≤1232*l.length:=by
  induction l with
  | nil=>exact Nat.le_refl _
  | cons f l ih =>
    have:=xsE_0 (h f (by simp))
    have:=ih fun g hg=>h g (by simp[hg])
    rw[xtot_cons,List.length_cons]; omega
def rdN (l:List UInt8) (p:Nat):Nat:=getN (cutN l (p+2) 2)
def plN (l:List UInt8):Nat→Nat
  | 0=>0
  | k+1=>plN l k+rdN l (plN l k)
def frE (rest z:Nat):Int:=if rest<4 then 1 else if z%4≠0∨z<16 then 3 else if rest<z then 1 else 0
def stE (l:List UInt8) (k:Nat):Option Int :=
  if l.length≤plN l k then some 0 else if frE (l.length-plN l k) (rdN l (plN l k))≠0 then some (frE (l.length-plN l k) (rdN l (plN l k))) else if k=24 then some 8 else none
def cntF (l:List UInt8):Nat→Nat→Nat
  | 0,k=>k
  | n+1,k=>if (stE l k).isSome=true then k else cntF l n (k+1)
def cntN (l:List UInt8):Nat:=cntF l 24 0
def rfd (l:List UInt8) (k:Nat):Fd:=⟨(getN (cutN l (plN l k) 2):Int),cutN l (plN l k+4) (rdN l (plN l k)-4)⟩
def rfs (l:List UInt8) (k:Nat):List Fd:=(List.range k).map (rfd l)
def rps (l:List UInt8) (k:Nat):List Int:=(List.range k).map fun i=>(plN l i:Int)
def eaE (l:List UInt8):Int:=if 1232<l.length then 2 else (stE l (cntN l)).getD 0
def eaN (l:List UInt8):Nat:=if 1232<l.length then 0 else cntN l
def xdL (l:List UInt8):List Fd:=if eaE l=0 then rfs l (eaN l) else []
def xpL (l:List UInt8):List Int:=if eaE l=0 then rps l (eaN l) else []
theorem rfs_len (l:List UInt8) (k:Nat):(rfs l k).length=k:=by simp[rfs]
theorem rps_len (l:List UInt8) (k:Nat):(rps l k).length=k:=by simp[rps]
theorem rfs_succ (l:List UInt8) (k:Nat):rfs l (k+1)=rfs l k++[rfd l k]:=by simp[rfs,List.range_succ]
theorem rps_succ (l:List UInt8) (k:Nat):rps l (k+1)=rps l k++[(plN l k:Int)]:=by simp[rps,List.range_succ]
theorem stE_24 (l:List UInt8):(stE l 24).isSome=true:=by
  unfold stE
  split
  ·rfl
  ·split
   ·rfl
   ·rfl
theorem cntF_ok (l:List UInt8):∀ n k,k+n=24→k≤cntF l n k∧cntF l n k≤24∧(stE l (cntF l n k)).isSome=true∧∀ j,k≤j→j<cntF l n k→stE l j=none
  | 0,k,h=>by
    obtain rfl:k=24:=by omega
    exact⟨Nat.le_refl _,Nat.le_refl _,stE_24 l,fun j h1 h2=>by rw[cntF] at h2; omega⟩
  | n+1,k,h=>by
    rw[cntF]
    by_cases e:(stE l k).isSome=true
    ·rw[if_pos e]
     exact⟨Nat.le_refl _,by omega,e,fun j h1 h2=>by omega⟩
    ·rw[if_neg e]
     obtain⟨h1,h2,h3,h4⟩:=cntF_ok l n (k+1) (by omega)
     refine⟨by omega,h2,h3,fun j h5 h6=>?_⟩
     by_cases e2:j=k
     ·subst e2
      cases hs:stE l j with
      | none=>rfl
      | some x=>rw[hs] at e; exact absurd rfl e
     ·exact h4 j (by omega) h6
theorem cntN_ok (l:List UInt8):cntN l≤24∧(stE l (cntN l)).isSome=true∧∀ j,j<cntN l→stE l j=none:=by
  obtain⟨_,h2,h3,h4⟩:=cntF_ok l 24 0 rfl
  exact⟨h2,h3,fun j hj=>h4 j (Nat.zero_le _) hj⟩
theorem cntN_is {l:List UInt8} {n:Nat} (h1:(stE l n).isSome=true) (h2:∀ j,j<n→stE l j=none):cntN l=n:=by
  obtain⟨k1,k2,k3⟩:=cntN_ok l
  rcases Nat.lt_trichotomy (cntN l) n with h | h | h
  ·rw[h2 _ h] at k2; cases k2
  ·exact h
  ·rw[k3 _ h] at h1; cases h1
theorem frE_0 {r z:Nat} (h:frE r z=0):4≤r∧z%4=0∧16≤z∧z≤r:=by
  unfold frE at h
  split at h
  ·cases h
  ·split at h
   ·cases h
   ·split at h
    ·cases h
    ·omega
theorem frE_of {r z:Nat} (h1:z%4=0) (h2:16≤z) (h3:z≤r):frE r z=0:=by
  unfold frE
  rw[if_neg (by omega),if_neg (by omega),if_neg (by omega)]
theorem stE_none {l:List UInt8} {k:Nat} (h:stE l k=none):plN l k<l.length∧frE (l.length-plN l k) (rdN l (plN l k))=0∧k≠24:=by
  unfold stE at h
  split at h
  ·cases h
  ·split at h
   ·cases h
   ·rename_i h1 h2
    split at h
    ·cases h
    ·rename_i h3
     exact⟨by omega,by simpa using h2,h3⟩
theorem stE_go {l:List UInt8} {k:Nat} (h:stE l k=none):plN l k+rdN l (plN l k)≤l.length∧rdN l (plN l k)%4=0∧16≤rdN l (plN l k)∧4≤l.length-plN l k:=by
  obtain⟨h1,h2,_⟩:=stE_none h
  have:=frE_0 h2
  omega
theorem plN_le (l:List UInt8):∀ k,k≤cntN l→plN l k≤l.length
  | 0,_=>Nat.zero_le _
  | k+1,h=>by
    have:=stE_go ((cntN_ok l).2.2 k (by omega))
    rw[plN]; omega
theorem rdN_lt (l:List UInt8) (p:Nat) (h:p+4≤l.length):rdN l p<65536 :=
  (getN_lt_pow 2 (cutN l (p+2) 2) (cutN_len (by omega)) (by decide)).1
theorem eaE_0 {l:List UInt8} (h:eaE l=0):l.length≤1232∧stE l (cntN l)=some 0∧eaN l=cntN l∧plN l (cntN l)=l.length:=by
  unfold eaE at h
  split at h
  ·cases h
  ·rename_i h1
   have h2:=(cntN_ok l).2.1
   cases hs:stE l (cntN l) with
   | none=>rw[hs] at h2; cases h2
   | some x =>
     rw[hs] at h
     obtain rfl:x=0:=h
     refine⟨by omega,rfl,if_neg h1,?_⟩
     have h3:=plN_le l _ (Nat.le_refl _)
     unfold stE at hs
     split at hs
     ·omega
     ·split at hs
      ·rename_i h5
       exact absurd (Option.some.inj hs) h5
      ·split at hs
       ·exact absurd (Option.some.inj hs) (by decide)
       ·cases hs
theorem cutN_at (p q:List UInt8) (a n:Nat):cutN (p++q) (p.length+a) n=cutN q a n:=by
  unfold cutN
  rw[List.drop_append,List.drop_of_length_le (by omega),List.nil_append]
  congr 2
  omega
theorem xfB_ty (f:Fd) (r:List UInt8):cutN (xfB f++r) 0 2=putL f.ty.toNat 2:=by
  unfold xfB cutN
  rw[List.append_assoc,List.drop_zero,List.take_append_of_le_length (by simp[putL_length]),List.take_of_length_le (by simp[putL_length])]
theorem xfB_sz (f:Fd) (r:List UInt8):cutN (xfB f++r) 2 2=putL (xsT f) 2:=by
  have h:=cutN_at (putL f.ty.toNat 2) ((putL (xsT f) 2++(f.da++List.replicate (xsT f-4-f.da.length) 0))++r) 0 2
  rw[putL_length,← List.append_assoc] at h
  unfold xfB
  refine h.trans ?_
  unfold cutN
  rw[List.append_assoc,List.drop_zero,List.take_append_of_le_length (by simp[putL_length]),List.take_of_length_le (by simp[putL_length])]
theorem xfB_da (f:Fd) (r:List UInt8):cutN (xfB f++r) 4 (xsT f-4)=f.da++List.replicate (xsT f-4-f.da.length) 0:=by
  have hl:=xsT_len f
  have h:=cutN_at (putL f.ty.toNat 2++putL (xsT f) 2) ((f.da++List.replicate (xsT f-4-f.da.length) 0)++r) 0 (xsT f-4)
  rw[List.length_append,putL_length,putL_length,← List.append_assoc,List.append_assoc (putL f.ty.toNat 2)] at h
  unfold xfB
  refine h.trans ?_
  unfold cutN
  rw[List.drop_zero,List.take_append_of_le_length (by simp; omega),List.take_of_length_le (by simp; omega)]
theorem pl_all (l:List Fd) (ok:∀ f∈l,xsE f=0):∀ k,k≤l.length→plN (xall l) k=xtot (l.take k)
  | 0,_=>rfl
  | k+1,h=>by
    have h0:k<l.length:=by omega
    have hf:xsE (l.getD k default)=0:=ok _ (by rw[List.getD_eq_getElem?_getD,List.getElem?_eq_getElem h0]; exact List.getElem_mem h0)
    have e:xall l=xall (l.take k)++(xfB (l.getD k default)++xall (l.drop (k+1))):=by
      rw[← List.append_assoc,← xall_take h0,← xall_app,List.take_append_drop]
    rw[plN,pl_all l ok k (by omega),xtot_take h0]
    congr 1
    unfold rdN
    rw[e,← xall_len (l.take k),cutN_at,xfB_sz,get_put 2 (by decide)]
    have:=xsE_0 hf
    omega
theorem rd_all {l:List Fd} (ok:∀ f∈l,xsE f=0) {k:Nat} (h:k<l.length):rdN (xall l) (plN (xall l) k)=xsT (l.getD k default):=by
  have h1:=pl_all l ok (k+1) (by omega)
  rw[plN,pl_all l ok k (by omega),xtot_take h] at h1
  rw[pl_all l ok k (by omega)]
  omega
theorem rf_all {l:List Fd} (ok:∀ f∈l,xsE f=0) {k:Nat} (h:k<l.length):rfd (xall l) k=padF (l.getD k default):=by
  have hf:xsE (l.getD k default)=0:=ok _ (by rw[List.getD_eq_getElem?_getD,List.getElem?_eq_getElem h]; exact List.getElem_mem h)
  have e:xall l=xall (l.take k)++(xfB (l.getD k default)++xall (l.drop (k+1))):=by
    rw[← List.append_assoc,← xall_take h,← xall_app,List.take_append_drop]
  have hx:=xsE_0 hf
  unfold rfd padF
  rw[rd_all ok h,pl_all l ok k (by omega),e,← xall_len (l.take k),cutN_at,xfB_da]
  congr 1
  have:=cutN_at (xall (l.take k)) (xfB (l.getD k default)++xall (l.drop (k+1))) 0 2
  rw[Nat.add_zero (xall (l.take k)).length] at this
  rw[this,xfB_ty,get_put 2 (by decide)]
  have:=hx.1
  omega
theorem st_all {l:List Fd} (ok:∀ f∈l,xsE f=0) (hn:l.length≤24) {k:Nat} (h:k<l.length):stE (xall l) k=none:=by
  have h1:=rd_all ok h
  have h2:=pl_all l ok k (by omega)
  have h3:=xtot_take h
  have h4:=xtot_le l (k+1)
  have h5:=xsT_16 (l.getD k default)
  have h6:=xsT_mod (l.getD k default)
  unfold stE
  rw[xall_len,h1,h2,if_neg (by omega),if_neg (by rw[frE_of h6 h5 (by omega)]; simp),if_neg (by omega)]
theorem cnt_all {l:List Fd} (ok:∀ f∈l,xsE f=0) (hn:l.length≤24):cntN (xall l)=l.length∧stE (xall l) l.length=some 0:=by
  have e:stE (xall l) l.length=some 0:=by
    unfold stE
    rw[pl_all l ok _ (Nat.le_refl _),List.take_length,xall_len,if_pos (Nat.le_refl _)]
  exact⟨cntN_is (by rw[e]; rfl) fun j hj=>st_all ok hn hj,e⟩
theorem dec_enc {l:List Fd} (h:xeE l=0):eaE (xall l)=0∧xdL (xall l)=l.map padF∧xpL (xall l)=(List.range l.length).map fun k=>(xtot (l.take k):Int):=by
  unfold xeE at h
  split at h
  ·rename_i h0
   have ok:=xfE_0.1 h0
   split at h
   ·cases h
   ·split at h
    ·cases h
    ·rename_i h1 h2
     obtain⟨c1,c2⟩:=cnt_all ok (by omega)
     have hl:¬ 1232<(xall l).length:=by rw[xall_len]; omega
     have e0:eaE (xall l)=0:=by unfold eaE; rw[if_neg hl,c1,c2]; rfl
     have e1:eaN (xall l)=l.length:=by unfold eaN; rw[if_neg hl,c1]
     refine⟨e0,?_,?_⟩
     ·unfold xdL rfs
      rw[if_pos e0,e1]
      refine List.ext_getElem (by simp) fun i i1 i2=>?_
      have hi:i<l.length:=by simpa using i1
      rw[List.getElem_map,List.getElem_map,List.getElem_range,rf_all ok hi,List.getD_eq_getElem?_getD,List.getElem?_eq_getElem hi]
      rfl
     ·unfold xpL rps
      rw[if_pos e0,e1]
      refine List.map_congr_left fun i hi=>?_
      rw[pl_all l ok i (by have:=List.mem_range.1 hi; omega)]
  ·rename_i h0; exact absurd h h0
end Go.Proofs.Ytcikhnjfkfigjaa
